/- Appends of a row of numbers to a row of the call's own. -/
import Derived.Test.YtceboejhdgjgoaaRRow
namespace Go.Proofs.Ytceboejhdgjgoaa
open Go.RowKit
set_option linter.unusedVariables false

theorem run_append_row (w : World) (ty : TypeId) (base : Nat) (v : Value) (n : Nat) (xs : List Int) (hown : w.ownsRow base 3 1 v n (xs.map (Value.int .i64)))
    (A : Option Addr) (m c : Nat) (zs : List Int) (h : Row w A m c zs) (hb : n + m ≤ 1000000) (hbase : base ≤ w.heap.size) :
    ∃ v' w', (Builtin.append_ #[35, 35] ty #[v, .slice A m c]).run Try.prog w = .ok v' w' ∧ w'.ownsRow base 3 1 v' (n + m) ((xs ++ zs).map (Value.int .i64)) ∧ w.grownBy w' v.ownBlock := by
  obtain ⟨i0, hi, hz0, hz1, hz2⟩ := info_parts info_int
  have hl := h.len
  cases A with
  | none =>
    have hc := h.nil rfl
    have h2 := h.cap
    subst hc
    have hm : m = 0 := by omega
    subst hm
    have hv : zs = [] := List.length_eq_zero_iff.1 hl
    subst hv
    exact ⟨v, w, run_append_owned_none (P := Try.prog) w base 35 ty 3 i0 1 Try.underlying35 hi v n _ hown, by rw [List.append_nil, Nat.add_zero]; exact hown, World.grownBy.refl w _⟩
  | some ad =>
    have hcells : ∀ j u, (zs.map (Value.int .i64))[j]? = some u → w.cell? (ad.add j) = some u := by
      cases zs with
      | nil => intro j u hj; simp at hj
      | cons y ys =>
        obtain ⟨b, off, e, _⟩ := h.row 0 y rfl
        injection e with e
        subst e
        exact h.icells
    obtain ⟨v', w', h1, h2, h3, _⟩ := run_append_own (P := Try.prog) w base 35 ty 3 i0 _ 1 8 Try.underlying35 hi hz0 hz1 hz2 rfl (by decide) v n _ hown ad m c _ (by rw [List.length_map, hl]; omega) hcells (icells_one zs) (by unfold maxLen; omega) (by omega) hbase
    exact ⟨v', w', h1, by rw [List.map_append]; exact h2, h3⟩
theorem wpList_append_row {w : World} {ops : Array Oper} {rest : List Oper} {o : Oper} {a : Act} {Q : Exit → Act → World → Prop} (hgd : o.guard = none) (s x : Operand)
    (ho : o.op = .call { callee := .builtin .append, args := #[s, x], argTypes := #[35, 35] })
    (base : Nat) (v : Value) (n : Nat) (xs : List Int) (hs : a.eval s = v) (hown : w.ownsRow base 3 1 v n (xs.map (Value.int .i64)))
    (A : Option Addr) (m c : Nat) (zs : List Int) (hx : a.eval x = .slice A m c) (h : Row w A m c zs) (hb : n + m ≤ 1000000) (hbase : base ≤ w.heap.size)
    (hK : ∀ v' w', w'.ownsRow base 3 1 v' (n + m) ((xs ++ zs).map (Value.int .i64)) → w.grownBy w' v.ownBlock → wpList Try.prog ops Q rest (a.put o.dst v') w') : wpList Try.prog ops Q (o :: rest) a w := by
  obtain ⟨v', w', hr, h2, h3⟩ := run_append_row w o.type base v n xs hown A m c zs h hb hbase
  refine wpList_plain hgd fun K hK' => ?_
  unfold Oper.wp
  simp [execOp, ho, resolve, invoke, builtin, hs, hx, hr, Result.andThen]
  exact hK' _ _ (hK v' w' h2 h3)
theorem step_append_row {w : World} {ops : Array Oper} {o : Oper} {a : Act} {K : Act → World → Prop} {Q : Exit → Act → World → Prop} {E : Prop} (hgd : o.guard = none) (s x : Operand)
    (ho : o.op = .call { callee := .builtin .append, args := #[s, x], argTypes := #[35, 35] })
    (base : Nat) (v : Value) (n : Nat) (xs : List Int) (hs : a.eval s = v) (hown : w.ownsRow base 3 1 v n (xs.map (Value.int .i64)))
    (A : Option Addr) (m c : Nat) (zs : List Int) (hx : a.eval x = .slice A m c) (h : Row w A m c zs) (hb : n + m ≤ 1000000) (hbase : base ≤ w.heap.size)
    (hK : ∀ v' w', w'.ownsRow base 3 1 v' (n + m) ((xs ++ zs).map (Value.int .i64)) → w.grownBy w' v.ownBlock → K (a.put o.dst v') w') :
    if Region.wanted o (yielded ops a.tmps) = true then Oper.wp Try.prog o a w K Q else E := by
  obtain ⟨v', w', hr, h2, h3⟩ := run_append_row w o.type base v n xs hown A m c zs h hb hbase
  have hw : Region.wanted o (yielded ops a.tmps) = true := by simp [Region.wanted, hgd]
  rw [if_pos hw]
  unfold Oper.wp
  simp [execOp, ho, resolve, invoke, builtin, hs, hx, hr, Result.andThen]
  exact hK v' w' h2 h3
/-- A row of the call's own; or an empty slice without room, wherever it lies. -/
def Own2 (w : World) (base : Nat) (v : Value) (n : Nat) (xs : List Int) : Prop :=
  w.ownsRow base 3 1 v n (xs.map (Value.int .i64)) ∨ (∃ ad, v = .slice (some ad) 0 0 ∧ n = 0 ∧ xs = [] ∧ base ≤ ad.block)
theorem run_append_own2 (w : World) (ty : TypeId) (base : Nat) (v : Value) (n : Nat) (xs : List Int) (hown : Own2 w base v n xs)
    (A : Option Addr) (m c : Nat) (zs : List Int) (h : Row w A m c zs) (hb : n + m ≤ 1000000) (hbase : base ≤ w.heap.size) :
    ∃ v' w', (Builtin.append_ #[35, 35] ty #[v, .slice A m c]).run Try.prog w = .ok v' w' ∧ Own2 w' base v' (n + m) (xs ++ zs) ∧ w.grownBy w' v.ownBlock := by
  rcases hown with hown | ⟨ad, rfl, rfl, rfl, had⟩
  · obtain ⟨v', w', h1, h2, h3⟩ := run_append_row w ty base v n xs hown A m c zs h hb hbase
    exact ⟨v', w', h1, .inl h2, h3⟩
  · obtain ⟨i0, hi, hz0, hz1, hz2⟩ := info_parts info_int
    have hl := h.len
    by_cases hm : m = 0
    · subst hm
      obtain rfl := List.length_eq_zero_iff.1 hl
      refine ⟨.slice (some ad) 0 0, w, ?_, .inr ⟨ad, rfl, rfl, rfl, had⟩, World.grownBy.refl w _⟩
      have hf : (Builtin.firstCells i0.size 0 (.slice A 0 c)).run Try.prog w = .ok #[] w := by
        cases A with
        | none => exact run_firstCells_none w _ _ _ _
        | some a => exact run_firstCells_some (P := Try.prog) w i0.size 0 a 0 c [] (by simp) (by intro j u hj; simp at hj)
      simp [Builtin.append_, run_underlying Try.underlying35, sizeOf, typeInfo, hi, Builtin.lenOf, hf, storeCells]
    · obtain ⟨b, off, rfl, _, _⟩ := h.cells (by omega)
      obtain ⟨v', w', h1, h2, h3⟩ := run_append_arg_grows (P := Try.prog) w 35 ty 3 i0 _ 1 8 Try.underlying35 hi hz0 hz1 hz2 rfl (by decide) ad 0 0 [] rfl (by intro j u hj; simp at hj) ⟨b, off, none⟩ m c (zs.map (Value.int .i64)) (by rw [List.length_map, hl]; omega) h.icells (by omega) (by unfold maxLen; omega) (by omega)
      refine ⟨v', w', h1, .inl ?_, ⟨h3.os, h3.tape, h3.output, h3.size, fun k hk _ => h3.block k hk (by simp)⟩⟩
      refine ⟨by rw [List.nil_append]; simpa using h2.1, ?_⟩
      rcases h2.2 with h0 | ⟨g, cap, cur, e1, hg, h4⟩
      · exact .inl h0
      · exact .inr ⟨g, cap, cur, e1, Nat.le_trans hbase hg, by simpa using h4⟩
theorem step_append_own2 {w : World} {ops : Array Oper} {o : Oper} {a : Act} {K : Act → World → Prop} {Q : Exit → Act → World → Prop} {E : Prop} (hgd : o.guard = none) (s x : Operand)
    (ho : o.op = .call { callee := .builtin .append, args := #[s, x], argTypes := #[35, 35] })
    (base : Nat) (v : Value) (n : Nat) (xs : List Int) (hs : a.eval s = v) (hown : Own2 w base v n xs)
    (A : Option Addr) (m c : Nat) (zs : List Int) (hx : a.eval x = .slice A m c) (h : Row w A m c zs) (hb : n + m ≤ 1000000) (hbase : base ≤ w.heap.size)
    (hK : ∀ v' w', Own2 w' base v' (n + m) (xs ++ zs) → w.grownBy w' v.ownBlock → K (a.put o.dst v') w') :
    if Region.wanted o (yielded ops a.tmps) = true then Oper.wp Try.prog o a w K Q else E := by
  obtain ⟨v', w', hr, h2, h3⟩ := run_append_own2 w o.type base v n xs hown A m c zs h hb hbase
  have hw : Region.wanted o (yielded ops a.tmps) = true := by simp [Region.wanted, hgd]
  rw [if_pos hw]
  unfold Oper.wp
  simp [execOp, ho, resolve, invoke, builtin, hs, hx, hr, Result.andThen]
  exact hK v' w' h2 h3
theorem Own2.row {w : World} {base n : Nat} {v : Value} {xs : List Int} (h : Own2 w base v n xs) : ∃ A c, v = .slice A n c ∧ Row w A n c xs ∧ From base A := by
  rcases h with h | ⟨ad, rfl, rfl, rfl, had⟩
  · obtain ⟨A, c, rfl, hr, hf⟩ := Row.of_own' h
    exact ⟨A, c, rfl, hr, hf⟩
  · exact ⟨some ad, 0, rfl, ⟨rfl, Nat.le_refl _, by omega, fun _ => rfl, fun i z hi => by simp at hi⟩, fun a e => by injection e with e; subst e; exact had⟩
theorem Own2.alloc {w : World} {base n : Nat} {v : Value} {xs : List Int} (h : Own2 w base v n xs) (o : Obj) : Own2 (w.alloc o) base v n xs := by
  rcases h with h | h
  · exact .inl (h.alloc o)
  · exact .inr h
theorem Own2.drew {w : World} {base n : Nat} {v : Value} {xs : List Int} (h : Own2 w base v n xs) : Own2 w.drew base v n xs := by
  rcases h with h | h
  · exact .inl h.drew
  · exact .inr h
theorem own_from {A : Option Addr} {n c B : Nat} (h : From B A) : ∀ k, (Value.slice A n c).ownBlock = some k → B ≤ k := by
  intro k hk
  cases A with
  | none => simp [Value.ownBlock] at hk
  | some ad => simp [Value.ownBlock] at hk; subst hk; exact h ad rfl
theorem Bx.grown {w W W' : World} {x y u v : Value} {row : Option Nat} (h : Bx w W x y u v) (hg : W.grownBy W' row) (hr : ∀ k, row = some k → w.heap.size + 2 ≤ k) : Bx w W' x y u v := by
  have hs := h.size
  have hc : ∀ b o, b < w.heap.size + 2 → W'.cell? ⟨b, o, none⟩ = W.cell? ⟨b, o, none⟩ := fun b o hb => World.cell?_of_block (hg.block b (by omega) (fun e => by have := hr b e.symm; omega))
  have hf : ∀ b o, b < w.heap.size + 2 → W'.frozen? ⟨b, o, none⟩ = W.frozen? ⟨b, o, none⟩ := fun b o hb => World.frozen?_of_block (hg.block b (by omega) (fun e => by have := hr b e.symm; omega))
  exact ⟨(hc _ _ (by omega)).trans h.c0, (hc _ _ (by omega)).trans h.c1, (hc _ _ (by omega)).trans h.r0, (hc _ _ (by omega)).trans h.r1, (hf _ _ (by omega)).trans h.f0, (hf _ _ (by omega)).trans h.f1, h.below.grown hg (by omega) (fun k e => by have := hr k e; omega), Nat.le_trans hs hg.size⟩
theorem Bx.alloc {w W : World} {x y u v : Value} (h : Bx w W x y u v) (o : Obj) : Bx w (W.alloc o) x y u v := h.step (below_new W o)
theorem row_at (w : World) (g : Int) (Y : Nat) (hY : w.heap.size = Y) : Row (w.alloc (.cells #[.int .i64 g] 3)) (some ⟨Y, 0, none⟩) 1 1 [g] := by
  subst hY
  have h : w.heap.size = w.heap.size := rfl
  have ho : (w.alloc (.cells #[.int .i64 g] 3)).ownsRow w.heap.size 3 1 (.slice (some ⟨w.heap.size, 0, none⟩) 1 1) 1 ([g].map (Value.int .i64)) :=
    ⟨rfl, .inr ⟨w.heap.size, 1, _, rfl, Nat.le_refl _, heap_alloc_new w _, Nat.le_refl _, by unfold maxLen; omega, rfl, rfl⟩⟩
  obtain ⟨A, c, e, hr⟩ := Row.of_own ho
  injection e with e1 e2 e3
  subst e1 e3
  exact hr
theorem Row.grown {w w' : World} {A : Option Addr} {n c : Nat} {zs : List Int} {row : Option Nat} (h : Row w A n c zs) (hg : w.grownBy w' row) (hne : ∀ ad, A = some ad → some ad.block ≠ row) : Row w' A n c zs := by
  refine ⟨h.len, h.cap, h.most, h.nil, fun i z hi => ?_⟩
  obtain ⟨b, off, e, hb, hc⟩ := h.row i z hi
  have := hne _ e
  exact ⟨b, off, e, Nat.lt_of_lt_of_le hb hg.size, (hg.cell hc this)⟩
/-- A list that is written out, in a block of its own. -/
theorem own_lit (w : World) (zs : List Int) (base : Nat) (hb : base ≤ w.heap.size) (hl : zs.length ≤ 1000000) : (w.alloc (.cells (zs.map (Value.int .i64)).toArray 3)).ownsRow base 3 1 (.slice (some ⟨w.heap.size, 0, none⟩) zs.length zs.length) zs.length (zs.map (Value.int .i64)) :=
  ⟨by simp, .inr ⟨w.heap.size, zs.length, _, rfl, hb, heap_alloc_new w _, Nat.le_refl _, by unfold maxLen; omega, by simp, by simp [List.take_of_length_le]⟩⟩
theorem row_lit (w : World) (zs : List Int) (hl : zs.length ≤ 1000000) : Row (w.alloc (.cells (zs.map (Value.int .i64)).toArray 3)) (some ⟨w.heap.size, 0, none⟩) zs.length zs.length zs := by
  have h := own_lit w zs w.heap.size (Nat.le_refl _) hl
  obtain ⟨A, c, e, hr⟩ := Row.of_own h
  injection e with e1 e2 e3
  subst e1 e3
  exact hr
end Go.Proofs.Ytceboejhdgjgoaa

