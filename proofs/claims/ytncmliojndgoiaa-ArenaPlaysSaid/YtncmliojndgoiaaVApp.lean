/- Appends to an empty slice without room, and to what came of it; a region whose operations come up in whatever order, by one condition that each of them keeps. -/
import Derived.Test.YtncmliojndgoiaaVRef
import Derived.Deep.RegionHeld3
namespace Go.Proofs.Ytncmliojndgoiaa
open Go.RowKit
set_option linter.unusedVariables false

/-- Whatever comes up next keeps I; when all have come up I gives what is wanted. -/
theorem wpAnyH_inv {P : Program} {ops : Array Oper} {Q : Exit → Act → World → Prop} {md : Region.Mode} {S : World → Prop} (I : Nat → Array Bool → Act → World → Prop)
    (zero : ∀ l a w, I 0 l a w → Region.ready md ops l = [])
    (done : ∀ n l a w, I n l a w → Region.ready md ops l = [] → Q .normal a w)
    (step : ∀ n l a w, I (n + 1) l a w → ∀ i ∈ Region.ready md ops l, wpOp P ops Q i (fun a' w' => S w' ∧ I n (l.setIfInBounds i true) a' w') a w) :
    ∀ n l a w, I n l a w → wpAnyH P md ops Q S n l a w
  | 0, l, a, w, h => ⟨zero l a w h, done 0 l a w h (zero l a w h)⟩
  | n + 1, l, a, w, h => ⟨fun hr => done (n + 1) l a w h hr, fun i hi => wpOp_mono (fun a' w' h' => ⟨h'.1, wpAnyH_inv I zero done step n _ a' w' h'.2⟩) (step n l a w h i hi)⟩
/-- One is taken first; its place written out. -/
theorem wpAnyH_takes {P : Program} {ops : Array Oper} {Q : Exit → Act → World → Prop} {md : Region.Mode} {S : World → Prop} {i : Nat} {oi : Oper} {v : Value} {fuel : Nat} {listed : Array Bool} {a : Act} {w : World} (d : Option Tmp) (hi : ops[i]? = some oi) (hd : oi.dst = d)
    (hs : Region.noSelect ops = true) (hf : Region.free md ops listed i = true) (hr : (Region.ready md ops listed).contains i = true)
    (hQ : ∀ c a w, Q (.panic c) (a.put d v) w → Q (.panic c) a w) (hy : YieldsIf P ops S oi v a) (hS : S w)
    (h : wpAnyH P md ops Q S fuel (listed.setIfInBounds i true) (a.put d v) w) : wpAnyH P md ops Q S (fuel + 1) listed a w := by
  subst hd
  exact wpAnyH_take hi hs hf hr hQ hy hS h
/-- A row of the call's own, whose block is told; or an empty slice without room. -/
def Fr (W : World) (base : Nat) (foot : Option Nat) (v : Value) (n : Nat) (xs : List Int) : Prop :=
  (W.ownsRow base 3 1 v n (xs.map (Value.int .i64)) ∧ foot = v.ownBlock) ∨ (∃ ad, v = .slice (some ad) 0 0 ∧ n = 0 ∧ xs = [] ∧ foot = none)
theorem run_append_fresh (w : World) (ty : TypeId) (ad : Addr) (A : Option Addr) (m c : Nat) (zs : List Int) (h : Row w A m c zs) (hb : m ≤ 1000000) :
    ∃ foot v' w', (Builtin.append_ #[22, 22] ty #[.slice (some ad) 0 0, .slice A m c]).run Try.prog w = .ok v' w' ∧ Fr w' w.heap.size foot v' m zs ∧ Below w.heap.size w w' := by
  obtain ⟨i0, hi, hz0, hz1, hz2⟩ := info_parts info_int
  have hl := h.len
  by_cases hm : m = 0
  · subst hm
    obtain rfl := List.length_eq_zero_iff.1 hl
    refine ⟨none, .slice (some ad) 0 0, w, ?_, .inr ⟨ad, rfl, rfl, rfl, rfl⟩, Below.refl _ _⟩
    have hf : (Builtin.firstCells i0.size 0 (.slice A 0 c)).run Try.prog w = .ok #[] w := by
      cases A with
      | none => exact run_firstCells_none w _ _ _ _
      | some a => exact run_firstCells_some (P := Try.prog) w i0.size 0 a 0 c [] (by simp) (by intro j u hj; simp at hj)
    simp [Builtin.append_, run_underlying Try.underlying22, sizeOf, typeInfo, hi, Builtin.lenOf, hf, storeCells]
  · obtain ⟨b, off, rfl, _, _⟩ := h.cells (by omega)
    obtain ⟨v', w', h1, h2, h3⟩ := run_append_arg_grows (P := Try.prog) w 22 ty 3 i0 _ 1 8 Try.underlying22 hi hz0 hz1 hz2 rfl (by decide) ad 0 0 [] rfl (by intro j u hj; simp at hj) ⟨b, off, none⟩ m c (zs.map (Value.int .i64)) (by rw [List.length_map, hl]; omega) h.icells (by omega) (by unfold maxLen; omega) (by omega)
    refine ⟨v'.ownBlock, v', w', h1, .inl ⟨?_, rfl⟩, ⟨h3.os, h3.tape, h3.output, h3.size, fun k hk => h3.block k hk (by simp)⟩⟩
    refine ⟨by simpa using h2.1, ?_⟩
    rcases h2.2 with h0 | ⟨g, cap, cur, e1, hg, h4⟩
    · exact .inl (by simpa using h0)
    · exact .inr ⟨g, cap, cur, by simpa using e1, hg, by simpa using h4⟩
theorem run_append_fr (w : World) (ty : TypeId) (base : Nat) (foot : Option Nat) (v : Value) (n : Nat) (xs : List Int) (hown : Fr w base foot v n xs)
    (A : Option Addr) (m c : Nat) (zs : List Int) (h : Row w A m c zs) (hb : n + m ≤ 1000000) (hbase : base ≤ w.heap.size) :
    ∃ foot' v' w', (Builtin.append_ #[22, 22] ty #[v, .slice A m c]).run Try.prog w = .ok v' w' ∧ Fr w' base foot' v' (n + m) (xs ++ zs) ∧ w.grownBy w' foot := by
  rcases hown with ⟨hown, rfl⟩ | ⟨ad, rfl, rfl, rfl, rfl⟩
  · obtain ⟨v', w', h1, h2, h3⟩ := run_append_row w ty base v n xs hown A m c zs h hb hbase
    exact ⟨_, v', w', h1, .inl ⟨h2, rfl⟩, h3⟩
  · obtain ⟨foot', v', w', h1, h2, h3⟩ := run_append_fresh w ty ad A m c zs h (by omega)
    refine ⟨foot', v', w', h1, ?_, ⟨h3.os, h3.tape, h3.output, h3.size, fun k hk _ => h3.block k hk⟩⟩
    rcases h2 with ⟨ho, hf⟩ | ⟨ad, e1, e2, e3, e4⟩
    · refine .inl ⟨?_, hf⟩
      rw [Nat.zero_add, List.nil_append]
      refine ⟨ho.1, ?_⟩
      rcases ho.2 with h0 | ⟨g, cap, cur, e1, hg, h4⟩
      · exact .inl h0
      · exact .inr ⟨g, cap, cur, e1, Nat.le_trans hbase hg, h4⟩
    · exact .inr ⟨ad, e1, by omega, by simp [e3], e4⟩
theorem Fr.mono {W : World} {base base' : Nat} {foot : Option Nat} {v : Value} {n : Nat} {xs : List Int} (h : Fr W base foot v n xs) (hb : base' ≤ base) : Fr W base' foot v n xs := by
  rcases h with ⟨ho, hf⟩ | h
  · refine .inl ⟨⟨ho.1, ?_⟩, hf⟩
    rcases ho.2 with h0 | ⟨g, cap, cur, e1, hg, h4⟩
    · exact .inl h0
    · exact .inr ⟨g, cap, cur, e1, Nat.le_trans hb hg, h4⟩
  · exact .inr h
theorem Fr.keep {W W' : World} {base : Nat} {foot : Option Nat} {v : Value} {n : Nat} {xs : List Int} (h : Fr W base foot v n xs) (hk : ∀ g, foot = some g → W'.heap[g]? = W.heap[g]?) : Fr W' base foot v n xs := by
  rcases h with ⟨ho, hf⟩ | h
  · exact .inl ⟨own_keep ho (fun g hg => hk g (hf.trans hg)), hf⟩
  · exact .inr h
theorem Fr.lt {W : World} {base : Nat} {foot : Option Nat} {v : Value} {n : Nat} {xs : List Int} (h : Fr W base foot v n xs) : ∀ g, foot = some g → base ≤ g ∧ g < W.heap.size := by
  rcases h with ⟨ho, hf⟩ | ⟨_, _, _, _, hf⟩
  · intro g hg; exact ho.lt g (hf.symm.trans hg)
  · intro g hg; rw [hf] at hg; cases hg
theorem Fr.step {W W' : World} {base : Nat} {foot : Option Nat} {v : Value} {n : Nat} {xs : List Int} (h : Fr W base foot v n xs) (hb : Below W.heap.size W W') : Fr W' base foot v n xs := h.keep (fun g hg => hb.block g (h.lt g hg).2)
theorem Fr.row {W : World} {base : Nat} {foot : Option Nat} {v : Value} {n : Nat} {xs : List Int} (h : Fr W base foot v n xs) : ∃ A c, v = .slice A n c ∧ Row W A n c xs ∧ (∀ P : Nat → Prop, (∀ b, base ≤ b → P b) → FromP P A xs) := by
  rcases h with ⟨ho, hf⟩ | ⟨ad, rfl, rfl, rfl, _⟩
  · obtain ⟨A, c, rfl, hr, hf⟩ := Row.of_own' ho
    exact ⟨A, c, rfl, hr, fun P hP => hf.fromP hP _⟩
  · exact ⟨some ad, 0, rfl, ⟨rfl, Nat.le_refl _, by omega, fun _ => rfl, fun i z hi => by simp at hi⟩, fun P _ => FromP.nothing P _⟩
theorem step_append_fresh {w : World} {ops : Array Oper} {o : Oper} {a : Act} {K : Act → World → Prop} {Q : Exit → Act → World → Prop} {E : Prop} (hgd : o.guard = none) (s x : Operand)
    (ho : o.op = .call { callee := .builtin .append, args := #[s, x], argTypes := #[22, 22] })
    (ad : Addr) (hs : a.eval s = .slice (some ad) 0 0) (A : Option Addr) (m c : Nat) (zs : List Int) (hx : a.eval x = .slice A m c) (h : Row w A m c zs) (hb : m ≤ 1000000)
    (hK : ∀ foot v' w', Fr w' w.heap.size foot v' m zs → Below w.heap.size w w' → K (a.put o.dst v') w') :
    if Region.wanted o (yielded ops a.tmps) = true then Oper.wp Try.prog o a w K Q else E := by
  obtain ⟨foot, v', w', hr, h2, h3⟩ := run_append_fresh w o.type ad A m c zs h hb
  have hw : Region.wanted o (yielded ops a.tmps) = true := by simp [Region.wanted, hgd]
  rw [if_pos hw]
  unfold Oper.wp
  simp [execOp, ho, resolve, invoke, builtin, hs, hx, hr, Result.andThen]
  exact hK foot v' w' h2 h3
theorem step_append_fr {w : World} {ops : Array Oper} {o : Oper} {a : Act} {K : Act → World → Prop} {Q : Exit → Act → World → Prop} {E : Prop} (hgd : o.guard = none) (s x : Operand)
    (ho : o.op = .call { callee := .builtin .append, args := #[s, x], argTypes := #[22, 22] })
    (base : Nat) (foot : Option Nat) (v : Value) (n : Nat) (xs : List Int) (hs : a.eval s = v) (hown : Fr w base foot v n xs)
    (A : Option Addr) (m c : Nat) (zs : List Int) (hx : a.eval x = .slice A m c) (h : Row w A m c zs) (hb : n + m ≤ 1000000) (hbase : base ≤ w.heap.size)
    (hK : ∀ foot' v' w', Fr w' base foot' v' (n + m) (xs ++ zs) → w.grownBy w' foot → K (a.put o.dst v') w') :
    if Region.wanted o (yielded ops a.tmps) = true then Oper.wp Try.prog o a w K Q else E := by
  obtain ⟨foot', v', w', hr, h2, h3⟩ := run_append_fr w o.type base foot v n xs hown A m c zs h hb hbase
  have hw : Region.wanted o (yielded ops a.tmps) = true := by simp [Region.wanted, hgd]
  rw [if_pos hw]
  unfold Oper.wp
  simp [execOp, ho, resolve, invoke, builtin, hs, hx, hr, Result.andThen]
  exact hK foot' v' w' h2 h3
theorem Row.one {W : World} {Y : Nat} {g : Int} (h : W.cell? ⟨Y, 0, none⟩ = some (.int .i64 g)) : Row W (some ⟨Y, 0, none⟩) 1 1 [g] :=
  ⟨rfl, Nat.le_refl _, by omega, (fun e => by cases e), fun i z hi => by
    match i, hi with
    | 0, hi =>
      simp at hi; subst hi
      exact ⟨Y, 0, rfl, World.block_lt_of_cell? W ⟨Y, 0, none⟩ h, h⟩⟩
end Go.Proofs.Ytncmliojndgoiaa

