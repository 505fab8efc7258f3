/- Appends to an empty slice without room, wherever it lies, of 64-bit numbers and of pairs. -/
import Derived.Test.YtjpnfjiccckaiaaOBox
namespace Go.Proofs.Ytjpnfjiccckaiaa
open Go.RowKit
set_option linter.unusedVariables false

/-- A row of the call's own; or an empty slice without room, wherever it lies. -/
def Own64 (w : World) (base : Nat) (v : Value) (n : Nat) (xs : List Int) : Prop :=
  w.ownsRow base 2 1 v n (xs.map (Value.int .i64)) ∨ (∃ ad, v = .slice (some ad) 0 0 ∧ n = 0 ∧ xs = [] ∧ base ≤ ad.block)
theorem run_append_own64 (w : World) (ty : TypeId) (base : Nat) (v : Value) (n : Nat) (xs : List Int) (hown : Own64 w base v n xs)
    (A : Option Addr) (m c : Nat) (zs : List Int) (h : Row w A m c zs) (hb : n + m ≤ 1000000) (hbase : base ≤ w.heap.size) :
    ∃ v' w', (Builtin.append_ #[22, 22] ty #[v, .slice A m c]).run Try.prog w = .ok v' w' ∧ Own64 w' base v' (n + m) (xs ++ zs) ∧ w.grownBy w' v.ownBlock := by
  rcases hown with hown | ⟨ad, rfl, rfl, rfl, had⟩
  · obtain ⟨v', w', h1, h2, h3⟩ := run_append_row64 w ty base v n xs hown A m c zs h hb hbase
    exact ⟨v', w', h1, .inl h2, h3⟩
  · obtain ⟨i0, hi, hz0, hz1, hz2⟩ := info_parts info_i64
    have hl := h.len
    by_cases hm : m = 0
    · subst hm
      obtain rfl := List.length_eq_zero_iff.1 hl
      refine ⟨.slice (some ad) 0 0, w, ?_, .inr ⟨ad, rfl, rfl, rfl, had⟩, World.grownBy.refl w _⟩
      have hf : (Builtin.firstCells i0.size 0 (.slice A 0 c)).run Try.prog w = .ok #[] w := by
        cases A with
        | none => exact run_firstCells_none w _ _ _ _
        | some a => exact run_firstCells_some (P := Try.prog) w i0.size 0 a 0 c [] (by simp) (by intro j u hj; simp at hj)
      simp [Builtin.append_, run_underlying Try.underlying22, sizeOf, typeInfo, hi, Builtin.lenOf, hf, storeCells]
    · obtain ⟨b, off, rfl, _, _⟩ := h.cells (by omega)
      obtain ⟨v', w', h1, h2, h3⟩ := run_append_arg_grows (P := Try.prog) w 22 ty 2 i0 _ 1 8 Try.underlying22 hi hz0 hz1 hz2 rfl (by decide) ad 0 0 [] rfl (by intro j u hj; simp at hj) ⟨b, off, none⟩ m c (zs.map (Value.int .i64)) (by rw [List.length_map, hl]; omega) h.icells (by omega) (by unfold maxLen; omega) (by omega)
      refine ⟨v', w', h1, .inl ?_, ⟨h3.os, h3.tape, h3.output, h3.size, fun k hk _ => h3.block k hk (by simp)⟩⟩
      refine ⟨by rw [List.nil_append]; simpa using h2.1, ?_⟩
      rcases h2.2 with h0 | ⟨g, cap, cur, e1, hg, h4⟩
      · exact .inl h0
      · exact .inr ⟨g, cap, cur, e1, Nat.le_trans hbase hg, by simpa using h4⟩
theorem step_append_own64 {w : World} {ops : Array Oper} {o : Oper} {a : Act} {K : Act → World → Prop} {Q : Exit → Act → World → Prop} {E : Prop} (hgd : o.guard = none) (s x : Operand)
    (ho : o.op = .call { callee := .builtin .append, args := #[s, x], argTypes := #[22, 22] })
    (base : Nat) (v : Value) (n : Nat) (xs : List Int) (hs : a.eval s = v) (hown : Own64 w base v n xs)
    (A : Option Addr) (m c : Nat) (zs : List Int) (hx : a.eval x = .slice A m c) (h : Row w A m c zs) (hb : n + m ≤ 1000000) (hbase : base ≤ w.heap.size)
    (hK : ∀ v' w', Own64 w' base v' (n + m) (xs ++ zs) → w.grownBy w' v.ownBlock → K (a.put o.dst v') w') :
    if Region.wanted o (yielded ops a.tmps) = true then Oper.wp Try.prog o a w K Q else E := by
  obtain ⟨v', w', hr, h2, h3⟩ := run_append_own64 w o.type base v n xs hown A m c zs h hb hbase
  have hw : Region.wanted o (yielded ops a.tmps) = true := by simp [Region.wanted, hgd]
  rw [if_pos hw]
  unfold Oper.wp
  simp [execOp, ho, resolve, invoke, builtin, hs, hx, hr, Result.andThen]
  exact hK v' w' h2 h3
theorem Own64.row {w : World} {base n : Nat} {v : Value} {xs : List Int} (h : Own64 w base v n xs) : ∃ A c, v = .slice A n c ∧ Row w A n c xs ∧ From base A := by
  rcases h with h | ⟨ad, rfl, rfl, rfl, had⟩
  · obtain ⟨A, c, rfl, hr, hf⟩ := Row.of_own' h
    exact ⟨A, c, rfl, hr, hf⟩
  · exact ⟨some ad, 0, rfl, ⟨rfl, Nat.le_refl _, by omega, fun _ => rfl, fun i z hi => by simp at hi⟩, fun a e => by injection e with e; subst e; exact had⟩
theorem Own64.alloc {w : World} {base n : Nat} {v : Value} {xs : List Int} (h : Own64 w base v n xs) (o : Obj) : Own64 (w.alloc o) base v n xs := by
  rcases h with h | h
  · exact .inl (h.alloc o)
  · exact .inr h
theorem Own64.drew {w : World} {base n : Nat} {v : Value} {xs : List Int} (h : Own64 w base v n xs) : Own64 w.drew base v n xs := by
  rcases h with h | h
  · exact .inl h.drew
  · exact .inr h
/-- The same, of pairs. -/
def OwnR (w : World) (base : Nat) (v : Value) (n : Nat) (xs : List (Int × Int)) : Prop :=
  w.ownsRow base 51 2 v n (vcells xs) ∨ (∃ ad, v = .slice (some ad) 0 0 ∧ n = 0 ∧ xs = [] ∧ base ≤ ad.block)
theorem run_append_OwnR (w : World) (ty : TypeId) (base : Nat) (v : Value) (n : Nat) (xs : List (Int × Int)) (hown : OwnR w base v n xs)
    (A : Option Addr) (m c : Nat) (zs : List (Int × Int)) (h : PR w A m c zs) (hb : n + m ≤ 1000000) (hbase : base ≤ w.heap.size) :
    ∃ v' w', (Builtin.append_ #[23, 23] ty #[v, .slice A m c]).run Try.prog w = .ok v' w' ∧ OwnR w' base v' (n + m) (xs ++ zs) ∧ w.grownBy w' v.ownBlock := by
  rcases hown with hown | ⟨ad, rfl, rfl, rfl, had⟩
  · obtain ⟨v', w', h1, h2, h3⟩ := run_append_rmail w ty base v n xs hown A m c zs h hb hbase
    exact ⟨v', w', h1, .inl h2, h3⟩
  · obtain ⟨i0, hi, hz0, hz1, hz2⟩ := info_parts info_rmail
    have hl := h.len
    by_cases hm : m = 0
    · subst hm
      obtain rfl := List.length_eq_zero_iff.1 hl
      refine ⟨.slice (some ad) 0 0, w, ?_, .inr ⟨ad, rfl, rfl, rfl, had⟩, World.grownBy.refl w _⟩
      have hf : (Builtin.firstCells i0.size 0 (.slice A 0 c)).run Try.prog w = .ok #[] w := by
        cases A with
        | none => exact run_firstCells_none w _ _ _ _
        | some a => exact run_firstCells_some (P := Try.prog) w i0.size 0 a 0 c [] (by simp) (by intro j u hj; simp at hj)
      simp [Builtin.append_, run_underlying Try.underlying23, sizeOf, typeInfo, hi, Builtin.lenOf, hf, storeCells]
    · obtain ⟨b, off, rfl, _, _⟩ := h.cells (by omega)
      obtain ⟨v', w', h1, h2, h3⟩ := run_append_arg_grows (P := Try.prog) w 23 ty 51 i0 _ 2 16 Try.underlying23 hi hz0 hz1 hz2 rfl (by decide) ad 0 0 [] rfl (by intro j u hj; simp at hj) ⟨b, off, none⟩ m c (vcells zs) (by rw [vcells_length, hl]) h.row.cells (by omega) (by unfold maxLen; omega) (by omega)
      refine ⟨v', w', h1, .inl ?_, ⟨h3.os, h3.tape, h3.output, h3.size, fun k hk _ => h3.block k hk (by simp)⟩⟩
      refine ⟨by rw [List.nil_append]; simpa using h2.1, ?_⟩
      rcases h2.2 with h0 | ⟨g, cap, cur, e1, hg, h4⟩
      · exact .inl h0
      · exact .inr ⟨g, cap, cur, e1, Nat.le_trans hbase hg, by simpa using h4⟩
theorem step_append_OwnR {w : World} {ops : Array Oper} {o : Oper} {a : Act} {K : Act → World → Prop} {Q : Exit → Act → World → Prop} {E : Prop} (hgd : o.guard = none) (s x : Operand)
    (ho : o.op = .call { callee := .builtin .append, args := #[s, x], argTypes := #[23, 23] })
    (base : Nat) (v : Value) (n : Nat) (xs : List (Int × Int)) (hs : a.eval s = v) (hown : OwnR w base v n xs)
    (A : Option Addr) (m c : Nat) (zs : List (Int × Int)) (hx : a.eval x = .slice A m c) (h : PR w A m c zs) (hb : n + m ≤ 1000000) (hbase : base ≤ w.heap.size)
    (hK : ∀ v' w', OwnR w' base v' (n + m) (xs ++ zs) → w.grownBy w' v.ownBlock → K (a.put o.dst v') w') :
    if Region.wanted o (yielded ops a.tmps) = true then Oper.wp Try.prog o a w K Q else E := by
  obtain ⟨v', w', hr, h2, h3⟩ := run_append_OwnR w o.type base v n xs hown A m c zs h hb hbase
  have hw : Region.wanted o (yielded ops a.tmps) = true := by simp [Region.wanted, hgd]
  rw [if_pos hw]
  unfold Oper.wp
  simp [execOp, ho, resolve, invoke, builtin, hs, hx, hr, Result.andThen]
  exact hK v' w' h2 h3
theorem OwnR.row {w : World} {base n : Nat} {v : Value} {xs : List (Int × Int)} (h : OwnR w base v n xs) : ∃ A c, v = .slice A n c ∧ PR w A n c xs ∧ From base A := by
  rcases h with h | ⟨ad, rfl, rfl, rfl, had⟩
  · obtain ⟨A, c, rfl, hr, hf⟩ := PR.of_own' h
    exact ⟨A, c, rfl, hr, hf⟩
  · exact ⟨some ad, 0, rfl, ⟨rfl, Nat.le_refl _, by omega, fun _ => rfl, fun i z hi => by simp at hi⟩, fun a e => by injection e with e; subst e; exact had⟩
theorem OwnR.alloc {w : World} {base n : Nat} {v : Value} {xs : List (Int × Int)} (h : OwnR w base v n xs) (o : Obj) : OwnR (w.alloc o) base v n xs := by
  rcases h with h | h
  · exact .inl (h.alloc o)
  · exact .inr h
theorem OwnR.drew {w : World} {base n : Nat} {v : Value} {xs : List (Int × Int)} (h : OwnR w base v n xs) : OwnR w.drew base v n xs := by
  rcases h with h | h
  · exact .inl h.drew
  · exact .inr h
theorem Own64.step {w w' : World} {base n : Nat} {v : Value} {xs : List Int} (h : Own64 w base v n xs) (hb : Below w.heap.size w w') : Own64 w' base v n xs := by
  rcases h with h | h
  · exact .inl (own_below h hb)
  · exact .inr h
theorem OwnR.step {w w' : World} {base n : Nat} {v : Value} {xs : List (Int × Int)} (h : OwnR w base v n xs) (hb : Below w.heap.size w w') : OwnR w' base v n xs := by
  rcases h with h | h
  · exact .inl (own_below h hb)
  · exact .inr h
theorem Own2.step {w w' : World} {base n : Nat} {v : Value} {xs : List Int} (h : Own2 w base v n xs) (hb : Below w.heap.size w w') : Own2 w' base v n xs := by
  rcases h with h | h
  · exact .inl (own_below h hb)
  · exact .inr h
end Go.Proofs.Ytjpnfjiccckaiaa

