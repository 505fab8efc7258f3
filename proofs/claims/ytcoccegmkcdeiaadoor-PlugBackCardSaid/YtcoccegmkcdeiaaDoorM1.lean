/- Contracts and plain mathematics, put together by program (wip/merge.py) out of: RApp JRow RBag RFrame RLeft RHalf RSame RRef. -/
import Derived.Test.YtcoccegmkcdeiaaDoorM0
import Derived.Deep.AppendLies
import Derived.Laws.OwnMore
import Derived.ChangeSlices
import Derived.Lib.SmallJoins
/- Appends of a row of numbers to a row of the call's own. -/
namespace Go.Proofs.YtcoccegmkcdeiaaDoor
open Go.RowKit
set_option linter.unusedVariables false

theorem run_append_row (w : World) (ty : TypeId) (base : Nat) (v : Value) (n : Nat) (xs : List Int) (hown : w.ownsRow base 3 1 v n (xs.map (Value.int .i64)))
    (A : Option Addr) (m c : Nat) (zs : List Int) (h : Row w A m c zs) (hb : n + m ≤ 1000000) (hbase : base ≤ w.heap.size) :
    ∃ v' w', (Builtin.append_ #[42, 42] ty #[v, .slice A m c]).run Tryd.prog w = .ok v' w' ∧ w'.ownsRow base 3 1 v' (n + m) ((xs ++ zs).map (Value.int .i64)) ∧ w.grownBy w' v.ownBlock := by
  obtain ⟨i0, hi, hz0, hz1, hz2⟩ := info_parts info_int
  have hl := h.len
  cases A with
  | none =>
    have hc := h.nil rfl
    have h2 := h.cap
    subst hc
    have hm : m = 0 := by omega
    subst hm
    have hv : zs = [] := List.length_eq_zero_iff.1 hl
    subst hv
    exact ⟨v, w, run_append_owned_none (P := Tryd.prog) w base 42 ty 3 i0 1 Tryd.underlying42 hi v n _ hown, by rw [List.append_nil, Nat.add_zero]; exact hown, World.grownBy.refl w _⟩
  | some ad =>
    have hcells : ∀ j u, (zs.map (Value.int .i64))[j]? = some u → w.cell? (ad.add j) = some u := by
      cases zs with
      | nil => intro j u hj; simp at hj
      | cons y ys =>
        obtain ⟨b, off, e, _⟩ := h.row 0 y rfl
        injection e with e
        subst e
        exact h.icells
    obtain ⟨v', w', h1, h2, h3, _⟩ := run_append_own (P := Tryd.prog) w base 42 ty 3 i0 _ 1 8 Tryd.underlying42 hi hz0 hz1 hz2 rfl (by decide) v n _ hown ad m c _ (by rw [List.length_map, hl]; omega) hcells (icells_one zs) (by unfold maxLen; omega) (by omega) hbase
    exact ⟨v', w', h1, by rw [List.map_append]; exact h2, h3⟩
theorem wpList_append_row {w : World} {ops : Array Oper} {rest : List Oper} {o : Oper} {a : Act} {Q : Exit → Act → World → Prop} (hgd : o.guard = none) (s x : Operand)
    (ho : o.op = .call { callee := .builtin .append, args := #[s, x], argTypes := #[42, 42] })
    (base : Nat) (v : Value) (n : Nat) (xs : List Int) (hs : a.eval s = v) (hown : w.ownsRow base 3 1 v n (xs.map (Value.int .i64)))
    (A : Option Addr) (m c : Nat) (zs : List Int) (hx : a.eval x = .slice A m c) (h : Row w A m c zs) (hb : n + m ≤ 1000000) (hbase : base ≤ w.heap.size)
    (hK : ∀ v' w', w'.ownsRow base 3 1 v' (n + m) ((xs ++ zs).map (Value.int .i64)) → w.grownBy w' v.ownBlock → wpList Tryd.prog ops Q rest (a.put o.dst v') w') : wpList Tryd.prog ops Q (o :: rest) a w := by
  obtain ⟨v', w', hr, h2, h3⟩ := run_append_row w o.type base v n xs hown A m c zs h hb hbase
  refine wpList_plain hgd fun K hK' => ?_
  unfold Oper.wp
  simp [execOp, ho, resolve, invoke, builtin, hs, hx, hr, Result.andThen]
  exact hK' _ _ (hK v' w' h2 h3)
theorem step_append_row {w : World} {ops : Array Oper} {o : Oper} {a : Act} {K : Act → World → Prop} {Q : Exit → Act → World → Prop} {E : Prop} (hgd : o.guard = none) (s x : Operand)
    (ho : o.op = .call { callee := .builtin .append, args := #[s, x], argTypes := #[42, 42] })
    (base : Nat) (v : Value) (n : Nat) (xs : List Int) (hs : a.eval s = v) (hown : w.ownsRow base 3 1 v n (xs.map (Value.int .i64)))
    (A : Option Addr) (m c : Nat) (zs : List Int) (hx : a.eval x = .slice A m c) (h : Row w A m c zs) (hb : n + m ≤ 1000000) (hbase : base ≤ w.heap.size)
    (hK : ∀ v' w', w'.ownsRow base 3 1 v' (n + m) ((xs ++ zs).map (Value.int .i64)) → w.grownBy w' v.ownBlock → K (a.put o.dst v') w') :
    if Region.wanted o (yielded ops a.tmps) = true then Oper.wp Tryd.prog o a w K Q else E := by
  obtain ⟨v', w', hr, h2, h3⟩ := run_append_row w o.type base v n xs hown A m c zs h hb hbase
  have hw : Region.wanted o (yielded ops a.tmps) = true := by simp [Region.wanted, hgd]
  rw [if_pos hw]
  unfold Oper.wp
  simp [execOp, ho, resolve, invoke, builtin, hs, hx, hr, Result.andThen]
  exact hK v' w' h2 h3
/-- A row of the call's own; or an empty slice without room, wherever it lies. -/
def Own2 (w : World) (base : Nat) (v : Value) (n : Nat) (xs : List Int) : Prop :=
  w.ownsRow base 3 1 v n (xs.map (Value.int .i64)) ∨ (∃ ad, v = .slice (some ad) 0 0 ∧ n = 0 ∧ xs = [] ∧ base ≤ ad.block)
theorem run_append_own2 (w : World) (ty : TypeId) (base : Nat) (v : Value) (n : Nat) (xs : List Int) (hown : Own2 w base v n xs)
    (A : Option Addr) (m c : Nat) (zs : List Int) (h : Row w A m c zs) (hb : n + m ≤ 1000000) (hbase : base ≤ w.heap.size) :
    ∃ v' w', (Builtin.append_ #[42, 42] ty #[v, .slice A m c]).run Tryd.prog w = .ok v' w' ∧ Own2 w' base v' (n + m) (xs ++ zs) ∧ w.grownBy w' v.ownBlock := by
  rcases hown with hown | ⟨ad, rfl, rfl, rfl, had⟩
  · obtain ⟨v', w', h1, h2, h3⟩ := run_append_row w ty base v n xs hown A m c zs h hb hbase
    exact ⟨v', w', h1, .inl h2, h3⟩
  · obtain ⟨i0, hi, hz0, hz1, hz2⟩ := info_parts info_int
    have hl := h.len
    by_cases hm : m = 0
    · subst hm
      obtain rfl := List.length_eq_zero_iff.1 hl
      refine ⟨.slice (some ad) 0 0, w, ?_, .inr ⟨ad, rfl, rfl, rfl, had⟩, World.grownBy.refl w _⟩
      have hf : (Builtin.firstCells i0.size 0 (.slice A 0 c)).run Tryd.prog w = .ok #[] w := by
        cases A with
        | none => exact run_firstCells_none w _ _ _ _
        | some a => exact run_firstCells_some (P := Tryd.prog) w i0.size 0 a 0 c [] (by simp) (by intro j u hj; simp at hj)
      simp [Builtin.append_, run_underlying Tryd.underlying42, sizeOf, typeInfo, hi, Builtin.lenOf, hf, storeCells]
    · obtain ⟨b, off, rfl, _, _⟩ := h.cells (by omega)
      obtain ⟨v', w', h1, h2, h3⟩ := run_append_arg_grows (P := Tryd.prog) w 42 ty 3 i0 _ 1 8 Tryd.underlying42 hi hz0 hz1 hz2 rfl (by decide) ad 0 0 [] rfl (by intro j u hj; simp at hj) ⟨b, off, none⟩ m c (zs.map (Value.int .i64)) (by rw [List.length_map, hl]; omega) h.icells (by omega) (by unfold maxLen; omega) (by omega)
      refine ⟨v', w', h1, .inl ?_, ⟨h3.os, h3.tape, h3.output, h3.size, fun k hk _ => h3.block k hk (by simp)⟩⟩
      refine ⟨by rw [List.nil_append]; simpa using h2.1, ?_⟩
      rcases h2.2 with h0 | ⟨g, cap, cur, e1, hg, h4⟩
      · exact .inl h0
      · exact .inr ⟨g, cap, cur, e1, Nat.le_trans hbase hg, by simpa using h4⟩
theorem step_append_own2 {w : World} {ops : Array Oper} {o : Oper} {a : Act} {K : Act → World → Prop} {Q : Exit → Act → World → Prop} {E : Prop} (hgd : o.guard = none) (s x : Operand)
    (ho : o.op = .call { callee := .builtin .append, args := #[s, x], argTypes := #[42, 42] })
    (base : Nat) (v : Value) (n : Nat) (xs : List Int) (hs : a.eval s = v) (hown : Own2 w base v n xs)
    (A : Option Addr) (m c : Nat) (zs : List Int) (hx : a.eval x = .slice A m c) (h : Row w A m c zs) (hb : n + m ≤ 1000000) (hbase : base ≤ w.heap.size)
    (hK : ∀ v' w', Own2 w' base v' (n + m) (xs ++ zs) → w.grownBy w' v.ownBlock → K (a.put o.dst v') w') :
    if Region.wanted o (yielded ops a.tmps) = true then Oper.wp Tryd.prog o a w K Q else E := by
  obtain ⟨v', w', hr, h2, h3⟩ := run_append_own2 w o.type base v n xs hown A m c zs h hb hbase
  have hw : Region.wanted o (yielded ops a.tmps) = true := by simp [Region.wanted, hgd]
  rw [if_pos hw]
  unfold Oper.wp
  simp [execOp, ho, resolve, invoke, builtin, hs, hx, hr, Result.andThen]
  exact hK v' w' h2 h3
theorem Own2.row {w : World} {base n : Nat} {v : Value} {xs : List Int} (h : Own2 w base v n xs) : ∃ A c, v = .slice A n c ∧ Row w A n c xs ∧ From base A := by
  rcases h with h | ⟨ad, rfl, rfl, rfl, had⟩
  · obtain ⟨A, c, rfl, hr, hf⟩ := Row.of_own' h
    exact ⟨A, c, rfl, hr, hf⟩
  · exact ⟨some ad, 0, rfl, ⟨rfl, Nat.le_refl _, by omega, fun _ => rfl, fun i z hi => by simp at hi⟩, fun a e => by injection e with e; subst e; exact had⟩
theorem Own2.alloc {w : World} {base n : Nat} {v : Value} {xs : List Int} (h : Own2 w base v n xs) (o : Obj) : Own2 (w.alloc o) base v n xs := by
  rcases h with h | h
  · exact .inl (h.alloc o)
  · exact .inr h
theorem Own2.drew {w : World} {base n : Nat} {v : Value} {xs : List Int} (h : Own2 w base v n xs) : Own2 w.drew base v n xs := by
  rcases h with h | h
  · exact .inl h.drew
  · exact .inr h
theorem own_from {A : Option Addr} {n c B : Nat} (h : From B A) : ∀ k, (Value.slice A n c).ownBlock = some k → B ≤ k := by
  intro k hk
  cases A with
  | none => simp [Value.ownBlock] at hk
  | some ad => simp [Value.ownBlock] at hk; subst hk; exact h ad rfl
theorem Bx.grown {w W W' : World} {x y u v : Value} {row : Option Nat} (h : Bx w W x y u v) (hg : W.grownBy W' row) (hr : ∀ k, row = some k → w.heap.size + 2 ≤ k) : Bx w W' x y u v := by
  have hs := h.size
  have hc : ∀ b o, b < w.heap.size + 2 → W'.cell? ⟨b, o, none⟩ = W.cell? ⟨b, o, none⟩ := fun b o hb => World.cell?_of_block (hg.block b (by omega) (fun e => by have := hr b e.symm; omega))
  have hf : ∀ b o, b < w.heap.size + 2 → W'.frozen? ⟨b, o, none⟩ = W.frozen? ⟨b, o, none⟩ := fun b o hb => World.frozen?_of_block (hg.block b (by omega) (fun e => by have := hr b e.symm; omega))
  exact ⟨(hc _ _ (by omega)).trans h.c0, (hc _ _ (by omega)).trans h.c1, (hc _ _ (by omega)).trans h.r0, (hc _ _ (by omega)).trans h.r1, (hf _ _ (by omega)).trans h.f0, (hf _ _ (by omega)).trans h.f1, h.below.grown hg (by omega) (fun k e => by have := hr k e; omega), Nat.le_trans hs hg.size⟩
theorem Bx.alloc {w W : World} {x y u v : Value} (h : Bx w W x y u v) (o : Obj) : Bx w (W.alloc o) x y u v := h.step (below_new W o)
theorem row_at (w : World) (g : Int) (Y : Nat) (hY : w.heap.size = Y) : Row (w.alloc (.cells #[.int .i64 g] 3)) (some ⟨Y, 0, none⟩) 1 1 [g] := by
  subst hY
  have h : w.heap.size = w.heap.size := rfl
  have ho : (w.alloc (.cells #[.int .i64 g] 3)).ownsRow w.heap.size 3 1 (.slice (some ⟨w.heap.size, 0, none⟩) 1 1) 1 ([g].map (Value.int .i64)) :=
    ⟨rfl, .inr ⟨w.heap.size, 1, _, rfl, Nat.le_refl _, heap_alloc_new w _, Nat.le_refl _, by unfold maxLen; omega, rfl, rfl⟩⟩
  obtain ⟨A, c, e, hr⟩ := Row.of_own ho
  injection e with e1 e2 e3
  subst e1 e3
  exact hr
theorem Row.grown {w w' : World} {A : Option Addr} {n c : Nat} {zs : List Int} {row : Option Nat} (h : Row w A n c zs) (hg : w.grownBy w' row) (hne : ∀ ad, A = some ad → some ad.block ≠ row) : Row w' A n c zs := by
  refine ⟨h.len, h.cap, h.most, h.nil, fun i z hi => ?_⟩
  obtain ⟨b, off, e, hb, hc⟩ := h.row i z hi
  have := hne _ e
  exact ⟨b, off, e, Nat.lt_of_lt_of_le hb hg.size, (hg.cell hc this)⟩
/-- A list that is written out, in a block of its own. -/
theorem own_lit (w : World) (zs : List Int) (base : Nat) (hb : base ≤ w.heap.size) (hl : zs.length ≤ 1000000) : (w.alloc (.cells (zs.map (Value.int .i64)).toArray 3)).ownsRow base 3 1 (.slice (some ⟨w.heap.size, 0, none⟩) zs.length zs.length) zs.length (zs.map (Value.int .i64)) :=
  ⟨by simp, .inr ⟨w.heap.size, zs.length, _, rfl, hb, heap_alloc_new w _, Nat.le_refl _, by unfold maxLen; omega, by simp, by simp [List.take_of_length_le]⟩⟩
theorem row_lit (w : World) (zs : List Int) (hl : zs.length ≤ 1000000) : Row (w.alloc (.cells (zs.map (Value.int .i64)).toArray 3)) (some ⟨w.heap.size, 0, none⟩) zs.length zs.length zs := by
  have h := own_lit w zs w.heap.size (Nat.le_refl _) hl
  obtain ⟨A, c, e, hr⟩ := Row.of_own h
  injection e with e1 e2 e3
  subst e1 e3
  exact hr
end Go.Proofs.YtcoccegmkcdeiaaDoor


/- Rows of rings, and rows of rows, in memory: each element one or two cells, the last a slice of numbers; such rows of the call's own, that grow and are turned. -/
namespace Go.Proofs.YtcoccegmkcdeiaaDoor
open Go.RowKit
set_option linter.unusedVariables false

/-- An element: a number (a ring's next), a row, and where the row lies. -/
structure El where
  x : Int
  l : List Int
  A : Option Addr
  n : Nat
  c : Nat
def csG (e : El) : List Value := [.int .i64 e.x, .slice e.A e.n e.c]
def csL (e : El) : List Value := [.slice e.A e.n e.c]
theorem csG_len (e : El) : (csG e).length = 2 := rfl
theorem csL_len (e : El) : (csL e).length = 1 := rfl
theorem csG_one (es : List El) : ∀ u ∈ es.flatMap csG, u.oneCell' = true := by
  intro u hu
  obtain ⟨x, _, hx⟩ := List.mem_flatMap.1 hu
  simp only [csG, List.mem_cons, List.not_mem_nil, or_false] at hx
  rcases hx with rfl | rfl <;> rfl
theorem csL_one (es : List El) : ∀ u ∈ es.flatMap csL, u.oneCell' = true := by
  intro u hu
  obtain ⟨x, _, hx⟩ := List.mem_flatMap.1 hu
  simp only [csL, List.mem_cons, List.not_mem_nil, or_false] at hx
  rcases hx with rfl; rfl
theorem flat_len {cs : El → List Value} {sz : Nat} (hcs : ∀ e, (cs e).length = sz) (es : List El) : (es.flatMap cs).length = es.length * sz := by
  induction es with
  | nil => simp
  | cons e es ih => rw [List.flatMap_cons, List.length_append, hcs, ih, List.length_cons, Nat.succ_mul]; omega
theorem flat_at {cs : El → List Value} {sz : Nat} (hcs : ∀ e, (cs e).length = sz) : ∀ (es : List El) (i : Nat) (e : El) (j : Nat), es[i]? = some e → j < sz → (es.flatMap cs)[i * sz + j]? = (cs e)[j]? := by
  intro es
  induction es with
  | nil => intro i e j h _; simp at h
  | cons y ys ih =>
    intro i e j h hj
    rw [List.flatMap_cons]
    cases i with
    | zero =>
      simp only [List.getElem?_cons_zero, Option.some.injEq] at h
      subst h
      rw [Nat.zero_mul, Nat.zero_add, List.getElem?_append_left (by rw [hcs]; exact hj)]
    | succ i =>
      simp only [List.getElem?_cons_succ] at h
      rw [List.getElem?_append_right (by rw [hcs, Nat.succ_mul]; omega), hcs, Nat.succ_mul, show i * sz + sz + j - sz = i * sz + j by omega]
      exact ih i e j h hj
theorem flat_set_one (es : List El) (i : Nat) (e : El) (hi : i < es.length) : (es.flatMap csL).set i (.slice e.A e.n e.c) = (es.set i e).flatMap csL := by
  induction es generalizing i with
  | nil => simp at hi
  | cons y ys ih =>
    cases i with
    | zero => simp [csL]
    | succ i =>
      rw [List.set_cons_succ, List.flatMap_cons, List.flatMap_cons]
      simp only [csL, List.cons_append, List.nil_append, List.set_cons_succ]
      rw [← ih i (by simpa using hi)]
theorem flat_set_two (es : List El) (i : Nat) (e : El) (hi : i < es.length) : ((es.flatMap csG).set (i * 2) (.int .i64 e.x)).set (i * 2 + 1) (.slice e.A e.n e.c) = (es.set i e).flatMap csG := by
  induction es generalizing i with
  | nil => simp at hi
  | cons y ys ih =>
    cases i with
    | zero => simp [csG]
    | succ i =>
      rw [List.set_cons_succ, List.flatMap_cons, List.flatMap_cons, show (i + 1) * 2 = i * 2 + 1 + 1 by omega]
      simp only [csG, List.cons_append, List.nil_append, List.set_cons_succ]
      rw [← ih i (by simpa using hi)]
/-- A slice of such elements, with its capacity, and each element's row. -/
structure XR (cs : El → List Value) (sz : Nat) (w : World) (A : Option Addr) (n c : Nat) (es : List El) : Prop where
  len : es.length = n
  cap : n ≤ c
  most : c ≤ 9223372036854775807
  nil : A = none → c = 0
  cell : ∀ (i : Nat) e, es[i]? = some e → ∃ b off, A = some ⟨b, off, none⟩ ∧ b < w.heap.size ∧ ∀ j u, (cs e)[j]? = some u → w.cell? ⟨b, off + i * sz + j, none⟩ = some u
  rows : ∀ e ∈ es, Row w e.A e.n e.c e.l
variable {cs : El → List Value} {sz : Nat}
theorem XR.below {w w' : World} {A : Option Addr} {n c : Nat} {es : List El} (h : XR cs sz w A n c es) (hb : Below w.heap.size w w') : XR cs sz w' A n c es := by
  refine ⟨h.len, h.cap, h.most, h.nil, fun i e hi => ?_, fun e he => (h.rows e he).below hb⟩
  obtain ⟨b, off, e1, hlt, hc⟩ := h.cell i e hi
  exact ⟨b, off, e1, Nat.lt_of_lt_of_le hlt hb.size, fun j u hj => keepcell hb (hc j u hj)⟩
theorem XR.nothing (w : World) : XR cs sz w none 0 0 [] := ⟨rfl, Nat.le_refl _, by omega, fun _ => rfl, fun i z h => by simp at h, fun e h => by simp at h⟩
theorem XR.drew {w : World} {A : Option Addr} {n c : Nat} {es : List El} (h : XR cs sz w A n c es) : XR cs sz w.drew A n c es := ⟨h.len, h.cap, h.most, h.nil, h.cell, fun e he => (h.rows e he).drew⟩
/-- The address and the cells of a row that has a member. -/
theorem XR.cells {w : World} {A : Option Addr} {n c : Nat} {es : List El} (h : XR cs sz w A n c es) (hn : 0 < n) : ∃ b off, A = some ⟨b, off, none⟩ ∧ b < w.heap.size ∧ ∀ i e, es[i]? = some e → ∀ j u, (cs e)[j]? = some u → w.cell? ⟨b, off + i * sz + j, none⟩ = some u := by
  obtain ⟨z0, h0⟩ : ∃ z, es[0]? = some z := ⟨_, List.getElem?_eq_getElem (by rw [h.len]; exact hn)⟩
  obtain ⟨b, off, rfl, hb, _⟩ := h.cell 0 z0 h0
  refine ⟨b, off, rfl, hb, fun i e hi j u hj => ?_⟩
  obtain ⟨b', off', e1, _, hc⟩ := h.cell i e hi
  injection e1 with e1
  injection e1 with e1 e2
  subst e1 e2
  exact hc j u hj
theorem XR.flat {w : World} {b off n c : Nat} {es : List El} (hcs : ∀ e, (cs e).length = sz) (h0 : 0 < sz) (h : XR cs sz w (some ⟨b, off, Option.none⟩) n c es) : ∀ j u, (es.flatMap cs)[j]? = some u → w.cell? ((⟨b, off, Option.none⟩ : Addr).add j) = some u := by
  intro j u hj
  have hl := (List.getElem?_eq_some_iff.1 hj).1
  rw [flat_len hcs] at hl
  have hd : j / sz < es.length := (Nat.div_lt_iff_lt_mul h0).2 hl
  obtain ⟨e, he⟩ : ∃ e, es[j / sz]? = some e := ⟨_, List.getElem?_eq_getElem hd⟩
  have hm := Nat.mod_lt j h0
  have hjj : j / sz * sz + j % sz = j := by rw [Nat.mul_comm]; exact Nat.div_add_mod j sz
  have e2 := flat_at hcs es (j / sz) e (j % sz) he hm
  rw [hjj, hj] at e2
  obtain ⟨b', off', e1, _, hc⟩ := h.cell _ e he
  injection e1 with e1
  injection e1 with e1 e3
  subst e1 e3
  have := hc (j % sz) u e2.symm
  rw [Nat.add_assoc, hjj] at this
  rw [add_lit']
  exact this
/-- An element's row does not lie in the row's own block. -/
def Apart (v : Value) (e : El) : Prop := e.l ≠ [] → ∀ ad, e.A = some ad → v.ownBlock ≠ some ad.block
theorem row_kept {w w' : World} {A : Option Addr} {n c : Nat} {zs : List Int} {row : Option Nat} (h : Row w A n c zs) (hg : w.grownBy w' row) (hne : zs ≠ [] → ∀ ad, A = some ad → row ≠ some ad.block) : Row w' A n c zs := by
  refine ⟨h.len, h.cap, h.most, h.nil, fun i z hi => ?_⟩
  obtain ⟨b, off, e, hb, h1⟩ := h.row i z hi
  have hz : zs ≠ [] := fun e => by rw [e] at hi; simp at hi
  have := hne hz _ e
  exact ⟨b, off, e, Nat.lt_of_lt_of_le hb hg.size, hg.cell h1 (fun e => this e.symm)⟩
/-- Such a row of the call's own. -/
structure XO (cs : El → List Value) (sz : Nat) (ty : TypeId) (base : Nat) (w : World) (v : Value) (n : Nat) (es : List El) : Prop where
  own : w.ownsRow base ty sz v n (es.flatMap cs)
  rows : ∀ e ∈ es, Row w e.A e.n e.c e.l
  apart : ∀ e ∈ es, Apart v e
variable {ty : TypeId}
theorem XO.none (base : Nat) (w : World) : XO cs sz ty base w (.slice Option.none 0 0) 0 [] := ⟨World.ownsRow_nil _ _ _ _, fun e h => by simp at h, fun e h => by simp at h⟩
theorem XO.step {w w' : World} {base n : Nat} {v : Value} {es : List El} (h : XO cs sz ty base w v n es) (hb : Below w.heap.size w w') : XO cs sz ty base w' v n es :=
  ⟨own_below h.own hb, fun e he => (h.rows e he).below hb, h.apart⟩
theorem XO.len {w : World} {base n : Nat} {v : Value} {es : List El} (hcs : ∀ e, (cs e).length = sz) (h0 : 0 < sz) (h : XO cs sz ty base w v n es) : es.length = n := by
  have := h.own.1
  rw [flat_len hcs] at this
  exact Nat.eq_of_mul_eq_mul_right h0 this
theorem XO.xr {w : World} {base n : Nat} {v : Value} {es : List El} (hcs : ∀ e, (cs e).length = sz) (h0 : 0 < sz) (h : XO cs sz ty base w v n es) : ∃ A c, v = .slice A n c ∧ XR cs sz w A n c es ∧ From base A := by
  have hl := h.len hcs h0
  have hr := h.rows
  have ho := h.own
  rcases ho.2 with ⟨rfl, rfl⟩ | ⟨g, cap, cur, rfl, hb, _, h1, h2, _⟩
  · obtain rfl := List.length_eq_zero_iff.1 hl
    exact ⟨_, _, rfl, XR.nothing w, From.none _⟩
  · refine ⟨_, _, rfl, ⟨hl, h1, by unfold maxLen at h2; omega, (fun e => by cases e), fun i e hi => ?_, hr⟩, fun ad e => by injection e with e; subst e; exact hb⟩
    refine ⟨g, 0, rfl, (ho.lt g rfl).2, fun j u hj => ?_⟩
    have hjs : j < sz := by rw [← hcs e]; exact (List.getElem?_eq_some_iff.1 hj).1
    have := ho.cells (g := g) rfl (i * sz + j) u (by rw [flat_at hcs es i e j hi hjs]; exact hj)
    rw [add_lit'] at this
    rw [show 0 + i * sz + j = 0 + (i * sz + j) by omega]
    exact this
/-- One element turned. -/
theorem XO.set2 {w : World} {base g n cap : Nat} {es : List El} (h : XO csG 2 ty base w (.slice (some ⟨g, 0, Option.none⟩) n cap) n es) (i : Nat) (e : El) (hi : i < n) (hr : Row w e.A e.n e.c e.l) (ha : Apart (.slice (some ⟨g, 0, Option.none⟩) n cap) e) :
    XO csG 2 ty base ((w.setCell ⟨g, i * 2, Option.none⟩ (.int .i64 e.x)).setCell ⟨g, i * 2 + 1, Option.none⟩ (.slice e.A e.n e.c)) (.slice (some ⟨g, 0, Option.none⟩) n cap) n (es.set i e) := by
  obtain ⟨h1, g1⟩ := h.own.stored (i * 2) (.int .i64 e.x)
  obtain ⟨h2, g2⟩ := h1.stored (i * 2 + 1) (.slice e.A e.n e.c)
  have hg := g1.trans g2
  have hl := h.len csG_len (by decide)
  have each : ∀ e' ∈ es.set i e, Row w e'.A e'.n e'.c e'.l ∧ Apart (.slice (some ⟨g, 0, Option.none⟩) n cap) e' := by
    intro e' he'
    rcases List.mem_or_eq_of_mem_set he' with h' | rfl
    · exact ⟨h.rows e' h', h.apart e' h'⟩
    · exact ⟨hr, ha⟩
  refine ⟨by rw [← flat_set_two es i e (by omega)]; exact h2, fun e' he' => ?_, fun e' he' => (each e' he').2⟩
  exact row_kept (each e' he').1 hg (fun hne ad hA => (each e' he').2 hne ad hA)
theorem XO.set1 {w : World} {base g n cap : Nat} {es : List El} (h : XO csL 1 ty base w (.slice (some ⟨g, 0, Option.none⟩) n cap) n es) (i : Nat) (e : El) (hi : i < n) (hr : Row w e.A e.n e.c e.l) (ha : Apart (.slice (some ⟨g, 0, Option.none⟩) n cap) e) :
    XO csL 1 ty base (w.setCell ⟨g, i, Option.none⟩ (.slice e.A e.n e.c)) (.slice (some ⟨g, 0, Option.none⟩) n cap) n (es.set i e) := by
  obtain ⟨h1, hg⟩ := h.own.stored i (.slice e.A e.n e.c)
  have hl := h.len csL_len (by decide)
  have each : ∀ e' ∈ es.set i e, Row w e'.A e'.n e'.c e'.l ∧ Apart (.slice (some ⟨g, 0, Option.none⟩) n cap) e' := by
    intro e' he'
    rcases List.mem_or_eq_of_mem_set he' with h' | rfl
    · exact ⟨h.rows e' h', h.apart e' h'⟩
    · exact ⟨hr, ha⟩
  refine ⟨by rw [← flat_set_one es i e (by omega)]; exact h1, fun e' he' => ?_, fun e' he' => (each e' he').2⟩
  exact row_kept (each e' he').1 hg (fun hne ad hA => (each e' he').2 hne ad hA)
/-- What an append leaves: the elder elements, and the new ones. -/
theorem XO.more {w w' : World} {base n m g cap : Nat} {v : Value} {es fs : List El} (h : XO cs sz ty base w v n es) (hg : w.grownBy w' v.ownBlock)
    (ho : w'.ownsRow base ty sz (.slice (some ⟨g, 0, Option.none⟩) (n + m) cap) (n + m) (es.flatMap cs ++ fs.flatMap cs)) (hlie : v.ownBlock = some g ∨ g = w.heap.size)
    (hr : ∀ e ∈ fs, Row w e.A e.n e.c e.l) (ha : ∀ e ∈ fs, Apart v e) : XO cs sz ty base w' (.slice (some ⟨g, 0, Option.none⟩) (n + m) cap) (n + m) (es ++ fs) := by
  have each : ∀ e ∈ es ++ fs, Row w e.A e.n e.c e.l ∧ Apart v e := by
    intro e he
    rcases List.mem_append.1 he with h' | h'
    · exact ⟨h.rows e h', h.apart e h'⟩
    · exact ⟨hr e h', ha e h'⟩
  refine ⟨by rw [List.flatMap_append]; exact ho, fun e he => row_kept (each e he).1 hg (fun hne ad hA => (each e he).2 hne ad hA), fun e he hne ad hA e2 => ?_⟩
  obtain ⟨h1, h2⟩ := each e he
  simp only [Value.ownBlock, Option.some.injEq] at e2
  rcases hlie with h3 | h3
  · exact h2 hne ad hA (by rw [h3, e2])
  · have h4 : 0 < e.n := by rw [← h1.len]; exact List.length_pos_iff.2 hne
    obtain ⟨b, off, e3, hb, _⟩ := h1.cells h4
    rw [hA] at e3
    injection e3 with e3
    subst e3
    simp only at e2
    omega
theorem info_ring : (Tryd.prog.info? 45).map (fun i => (i.zero, i.size, i.bytes)) = some (some (.agg #[.int .i64 0, .slice none 0 0]), 2, 32) := by kernel_rfl
theorem wpList_append_ring {w : World} {ops : Array Oper} {rest : List Oper} {o : Oper} {a : Act} {Q : Exit → Act → World → Prop} (hgd : o.guard = none) (s x : Operand)
    (ho : o.op = .call { callee := .builtin .append, args := #[s, x], argTypes := #[30, 30] })
    (base : Nat) (v : Value) (n : Nat) (es : List El) (h : XO csG 2 45 base w v n es) (hs : a.eval s = v)
    (ad : Addr) (m c : Nat) (fs : List El) (hx : a.eval x = .slice (some ad) m c) (hl : fs.length = m) (hnews : ∀ j u, (fs.flatMap csG)[j]? = some u → w.cell? (ad.add j) = some u)
    (hr : ∀ e ∈ fs, Row w e.A e.n e.c e.l) (ha : ∀ e ∈ fs, Apart v e) (hm : 0 < m) (hb : n + m ≤ 1000000) (hbase : base ≤ w.heap.size)
    (hK : ∀ g cap w', XO csG 2 45 base w' (.slice (some ⟨g, 0, none⟩) (n + m) cap) (n + m) (es ++ fs) → w.grownBy w' v.ownBlock → wpList Tryd.prog ops Q rest (a.put o.dst (.slice (some ⟨g, 0, none⟩) (n + m) cap)) w') : wpList Tryd.prog ops Q (o :: rest) a w := by
  obtain ⟨i0, hi, hz0, hz1, hz2⟩ := info_parts info_ring
  refine wpList_append_lies w hgd s x _ ho base 45 i0 _ 2 32 Tryd.underlying30 hi hz0 hz1 hz2 rfl (by decide) v n _ hs h.own ad m c (fs.flatMap csG) hx (by rw [flat_len csG_len, hl]) hnews (csG_one fs) hm (by unfold maxLen; omega) (by omega) hbase w.heap.size rfl ?_
  intro g cap w' h2 h3 h4 h5
  exact hK g cap w' (h.more h3 h2 h4 hr ha) h3
theorem step_append_ring {w : World} {ops : Array Oper} {o : Oper} {a : Act} {K : Act → World → Prop} {Q : Exit → Act → World → Prop} {E : Prop} (hgd : o.guard = none) (s x : Operand)
    (ho : o.op = .call { callee := .builtin .append, args := #[s, x], argTypes := #[30, 30] })
    (base : Nat) (v : Value) (n : Nat) (es : List El) (h : XO csG 2 45 base w v n es) (hs : a.eval s = v)
    (ad : Addr) (m c : Nat) (fs : List El) (hx : a.eval x = .slice (some ad) m c) (hl : fs.length = m) (hnews : ∀ j u, (fs.flatMap csG)[j]? = some u → w.cell? (ad.add j) = some u)
    (hr : ∀ e ∈ fs, Row w e.A e.n e.c e.l) (ha : ∀ e ∈ fs, Apart v e) (hm : 0 < m) (hb : n + m ≤ 1000000) (hbase : base ≤ w.heap.size)
    (hK : ∀ g cap w', XO csG 2 45 base w' (.slice (some ⟨g, 0, none⟩) (n + m) cap) (n + m) (es ++ fs) → w.grownBy w' v.ownBlock → K (a.put o.dst (.slice (some ⟨g, 0, none⟩) (n + m) cap)) w') :
    if Region.wanted o (yielded ops a.tmps) = true then Oper.wp Tryd.prog o a w K Q else E := by
  obtain ⟨i0, hi, hz0, hz1, hz2⟩ := info_parts info_ring
  refine step_append_lies w hgd s x _ ho base 45 i0 _ 2 32 Tryd.underlying30 hi hz0 hz1 hz2 rfl (by decide) v n _ hs h.own ad m c (fs.flatMap csG) hx (by rw [flat_len csG_len, hl]) hnews (csG_one fs) hm (by unfold maxLen; omega) (by omega) hbase w.heap.size rfl ?_
  intro g cap w' h2 h3 h4 h5
  exact hK g cap w' (h.more h3 h2 h4 hr ha) h3
theorem info_rring : (Tryd.prog.info? 53).map (fun i => (i.zero, i.size, i.bytes)) = some (some (.agg #[.int .i64 0, .slice none 0 0]), 2, 32) := by kernel_rfl
theorem wpList_append_rring {w : World} {ops : Array Oper} {rest : List Oper} {o : Oper} {a : Act} {Q : Exit → Act → World → Prop} (hgd : o.guard = none) (s x : Operand)
    (ho : o.op = .call { callee := .builtin .append, args := #[s, x], argTypes := #[23, 23] })
    (base : Nat) (v : Value) (n : Nat) (es : List El) (h : XO csG 2 53 base w v n es) (hs : a.eval s = v)
    (ad : Addr) (m c : Nat) (fs : List El) (hx : a.eval x = .slice (some ad) m c) (hl : fs.length = m) (hnews : ∀ j u, (fs.flatMap csG)[j]? = some u → w.cell? (ad.add j) = some u)
    (hr : ∀ e ∈ fs, Row w e.A e.n e.c e.l) (ha : ∀ e ∈ fs, Apart v e) (hm : 0 < m) (hb : n + m ≤ 1000000) (hbase : base ≤ w.heap.size)
    (hK : ∀ g cap w', XO csG 2 53 base w' (.slice (some ⟨g, 0, none⟩) (n + m) cap) (n + m) (es ++ fs) → w.grownBy w' v.ownBlock → wpList Tryd.prog ops Q rest (a.put o.dst (.slice (some ⟨g, 0, none⟩) (n + m) cap)) w') : wpList Tryd.prog ops Q (o :: rest) a w := by
  obtain ⟨i0, hi, hz0, hz1, hz2⟩ := info_parts info_rring
  refine wpList_append_lies w hgd s x _ ho base 53 i0 _ 2 32 Tryd.underlying23 hi hz0 hz1 hz2 rfl (by decide) v n _ hs h.own ad m c (fs.flatMap csG) hx (by rw [flat_len csG_len, hl]) hnews (csG_one fs) hm (by unfold maxLen; omega) (by omega) hbase w.heap.size rfl ?_
  intro g cap w' h2 h3 h4 h5
  exact hK g cap w' (h.more h3 h2 h4 hr ha) h3
theorem step_append_rring {w : World} {ops : Array Oper} {o : Oper} {a : Act} {K : Act → World → Prop} {Q : Exit → Act → World → Prop} {E : Prop} (hgd : o.guard = none) (s x : Operand)
    (ho : o.op = .call { callee := .builtin .append, args := #[s, x], argTypes := #[23, 23] })
    (base : Nat) (v : Value) (n : Nat) (es : List El) (h : XO csG 2 53 base w v n es) (hs : a.eval s = v)
    (ad : Addr) (m c : Nat) (fs : List El) (hx : a.eval x = .slice (some ad) m c) (hl : fs.length = m) (hnews : ∀ j u, (fs.flatMap csG)[j]? = some u → w.cell? (ad.add j) = some u)
    (hr : ∀ e ∈ fs, Row w e.A e.n e.c e.l) (ha : ∀ e ∈ fs, Apart v e) (hm : 0 < m) (hb : n + m ≤ 1000000) (hbase : base ≤ w.heap.size)
    (hK : ∀ g cap w', XO csG 2 53 base w' (.slice (some ⟨g, 0, none⟩) (n + m) cap) (n + m) (es ++ fs) → w.grownBy w' v.ownBlock → K (a.put o.dst (.slice (some ⟨g, 0, none⟩) (n + m) cap)) w') :
    if Region.wanted o (yielded ops a.tmps) = true then Oper.wp Tryd.prog o a w K Q else E := by
  obtain ⟨i0, hi, hz0, hz1, hz2⟩ := info_parts info_rring
  refine step_append_lies w hgd s x _ ho base 53 i0 _ 2 32 Tryd.underlying23 hi hz0 hz1 hz2 rfl (by decide) v n _ hs h.own ad m c (fs.flatMap csG) hx (by rw [flat_len csG_len, hl]) hnews (csG_one fs) hm (by unfold maxLen; omega) (by omega) hbase w.heap.size rfl ?_
  intro g cap w' h2 h3 h4 h5
  exact hK g cap w' (h.more h3 h2 h4 hr ha) h3
theorem info_rows : (Tryd.prog.info? 42).map (fun i => (i.zero, i.size, i.bytes)) = some (some (.slice none 0 0), 1, 24) := by kernel_rfl
theorem wpList_append_rows {w : World} {ops : Array Oper} {rest : List Oper} {o : Oper} {a : Act} {Q : Exit → Act → World → Prop} (hgd : o.guard = none) (s x : Operand)
    (ho : o.op = .call { callee := .builtin .append, args := #[s, x], argTypes := #[24, 24] })
    (base : Nat) (v : Value) (n : Nat) (es : List El) (h : XO csL 1 42 base w v n es) (hs : a.eval s = v)
    (ad : Addr) (m c : Nat) (fs : List El) (hx : a.eval x = .slice (some ad) m c) (hl : fs.length = m) (hnews : ∀ j u, (fs.flatMap csL)[j]? = some u → w.cell? (ad.add j) = some u)
    (hr : ∀ e ∈ fs, Row w e.A e.n e.c e.l) (ha : ∀ e ∈ fs, Apart v e) (hm : 0 < m) (hb : n + m ≤ 1000000) (hbase : base ≤ w.heap.size)
    (hK : ∀ g cap w', XO csL 1 42 base w' (.slice (some ⟨g, 0, none⟩) (n + m) cap) (n + m) (es ++ fs) → w.grownBy w' v.ownBlock → wpList Tryd.prog ops Q rest (a.put o.dst (.slice (some ⟨g, 0, none⟩) (n + m) cap)) w') : wpList Tryd.prog ops Q (o :: rest) a w := by
  obtain ⟨i0, hi, hz0, hz1, hz2⟩ := info_parts info_rows
  refine wpList_append_lies w hgd s x _ ho base 42 i0 _ 1 24 Tryd.underlying24 hi hz0 hz1 hz2 rfl (by decide) v n _ hs h.own ad m c (fs.flatMap csL) hx (by rw [flat_len csL_len, hl]) hnews (csL_one fs) hm (by unfold maxLen; omega) (by omega) hbase w.heap.size rfl ?_
  intro g cap w' h2 h3 h4 h5
  exact hK g cap w' (h.more h3 h2 h4 hr ha) h3
theorem step_append_rows {w : World} {ops : Array Oper} {o : Oper} {a : Act} {K : Act → World → Prop} {Q : Exit → Act → World → Prop} {E : Prop} (hgd : o.guard = none) (s x : Operand)
    (ho : o.op = .call { callee := .builtin .append, args := #[s, x], argTypes := #[24, 24] })
    (base : Nat) (v : Value) (n : Nat) (es : List El) (h : XO csL 1 42 base w v n es) (hs : a.eval s = v)
    (ad : Addr) (m c : Nat) (fs : List El) (hx : a.eval x = .slice (some ad) m c) (hl : fs.length = m) (hnews : ∀ j u, (fs.flatMap csL)[j]? = some u → w.cell? (ad.add j) = some u)
    (hr : ∀ e ∈ fs, Row w e.A e.n e.c e.l) (ha : ∀ e ∈ fs, Apart v e) (hm : 0 < m) (hb : n + m ≤ 1000000) (hbase : base ≤ w.heap.size)
    (hK : ∀ g cap w', XO csL 1 42 base w' (.slice (some ⟨g, 0, none⟩) (n + m) cap) (n + m) (es ++ fs) → w.grownBy w' v.ownBlock → K (a.put o.dst (.slice (some ⟨g, 0, none⟩) (n + m) cap)) w') :
    if Region.wanted o (yielded ops a.tmps) = true then Oper.wp Tryd.prog o a w K Q else E := by
  obtain ⟨i0, hi, hz0, hz1, hz2⟩ := info_parts info_rows
  refine step_append_lies w hgd s x _ ho base 42 i0 _ 1 24 Tryd.underlying24 hi hz0 hz1 hz2 rfl (by decide) v n _ hs h.own ad m c (fs.flatMap csL) hx (by rw [flat_len csL_len, hl]) hnews (csL_one fs) hm (by unfold maxLen; omega) (by omega) hbase w.heap.size rfl ?_
  intro g cap w' h2 h3 h4 h5
  exact hK g cap w' (h.more h3 h2 h4 hr ha) h3
/-- What is known of the elder memory stays. -/
theorem Below.grownX {B : Nat} {w0 w w' : World} {row : Option Nat} (h : Below B w0 w) (hg : w.grownBy w' row) (hB : B ≤ w.heap.size) (hrow : ∀ k, row = some k → B ≤ k) : Below B w0 w' := h.grown hg hB hrow
/-- A slice of one element, built. -/
theorem one_new {T : TypeId} (w : World) (e : El) : ∀ j u, ([e].flatMap csG)[j]? = some u → (w.alloc (.cells #[.int .i64 e.x, .slice e.A e.n e.c] T)).cell? ((⟨w.heap.size, 0, none⟩ : Addr).add j) = some u := by
  intro j u hj
  rw [add_lit', World.cell?_alloc_at _ _ _ _ rfl]
  simpa [csG] using hj
theorem one_new1 {T : TypeId} (w : World) (e : El) : ∀ j u, ([e].flatMap csL)[j]? = some u → (w.alloc (.cells #[.slice e.A e.n e.c] T)).cell? ((⟨w.heap.size, 0, none⟩ : Addr).add j) = some u := by
  intro j u hj
  rw [add_lit', World.cell?_alloc_at _ _ _ _ rfl]
  simpa [csL] using hj
end Go.Proofs.YtcoccegmkcdeiaaDoor


/- The document's comparison of bags, by its contract. -/
namespace Go.Proofs.YtcoccegmkcdeiaaDoor
open Go.RowKit
set_option linter.unusedVariables false

/-- How often z is among the first k of a more often than among those of b. -/
def dif (a b : List Int) (z : Int) (k : Nat) : Int := ((a.take k).count z : Int) - ((b.take k).count z : Int)
theorem dif_zero (a b : List Int) (z : Int) : dif a b z 0 = 0 := by unfold dif; simp
theorem dif_le {a b : List Int} {z : Int} {k : Nat} : -(k : Int) ≤ dif a b z k ∧ dif a b z k ≤ k := by
  unfold dif
  have h1 := List.count_le_length (a := z) (l := a.take k)
  have h2 := List.count_le_length (a := z) (l := b.take k)
  rw [List.length_take] at h1 h2
  omega
theorem dif_all {a b : List Int} {z : Int} {k : Nat} (hp : a.Perm b) (ha : a.length = k) : dif a b z k = 0 := by
  unfold dif
  have hb : b.length = k := by rw [← hp.length_eq]; exact ha
  rw [List.take_of_length_le (by omega), List.take_of_length_le (by omega), hp.count_eq z]
  omega
theorem dif_step {a b : List Int} {z x y : Int} {k : Nat} (ha : a[k]? = some x) (hb : b[k]? = some y) : dif a b z (k + 1) = dif a b z k + (if x = z then 1 else 0) - (if y = z then 1 else 0) := by
  unfold dif
  rw [List.take_add_one, ha, List.take_add_one, hb, List.count_append, List.count_append]
  simp only [Option.toList, List.count_cons, List.count_nil, beq_iff_eq]
  split <;> split <;> omega
set_option maxHeartbeats 1600000 in
theorem bag_any (A B : Option Addr) (n c d : Nat) (a b : List Int) (w : World) (hp : Hid (a.Perm b)) (h : Row w A n c a) (hB : Row w B n d b) (hn : n ≤ 1000000) :
    Calls Tryd.prog 15 #[.slice A n c, .slice B n d] w fun e w' => e = .returned (.bool true) ∧ Below w.heap.size w w' := by
  have H := Lib.hid h
  have HB := Lib.hid hB
  have la := h.len
  have lb := hB.len
  clear h hB
  go_enter Tryd.func15, Tryd.ntmps15
  go_wp2_with fail
  go_loopw [5] (fun i wr => ∃ k : Nat, k ≤ n ∧ i = .int .i64 k ∧ Hid (Below w.heap.size w wr)) (fun i _ => n - (intOf i).toNat)
  case atStart => exact ⟨0, Nat.zero_le _, rfl, Lib.hid (Below.refl _ _)⟩
  case round =>
    obtain ⟨i, hi, rfl, HW⟩ := hrel
    by_cases hlt : i < n
    · obtain ⟨z, hzi⟩ : ∃ z, a[i]? = some z := ⟨_, List.getElem?_eq_getElem (by omega)⟩
      obtain ⟨b1, o1, rfl, hb1, hc1⟩ := H.out.cells (by omega)
      obtain ⟨b2, o2, rfl, hb2, hc2⟩ := HB.out.cells (by omega)
      have HZ := Lib.hid (hc1 i z hzi)
      have HC1 := Lib.hid hc1
      have HC2 := Lib.hid hc2
      have i0 : (0 : Int) ≤ (i : Int) := by omega
      have i1 : (i : Int) < (n : Int) := by omega
      clear hc1 hc2 hzi
      obtain ⟨wo, rfl⟩ : ∃ wo : World, wo = wr := ⟨_, rfl⟩
      go_wp2_with fail
      go_loopw [6, 7] (fun m j wr => ∃ k : Nat, k ≤ n ∧ j = .int .i64 k ∧ m = .int .i64 (dif a b z k) ∧ Hid (Below w.heap.size w wr)) (fun _ j _ => n - (intOf j).toNat)
      case atStart => exact ⟨0, Nat.zero_le _, rfl, by rw [dif_zero], HW⟩
      case round =>
        obtain ⟨k, hk, rfl, rfl, HV⟩ := hrel
        by_cases hlt2 : k < n
        · obtain ⟨x, hx⟩ : ∃ x, a[k]? = some x := ⟨_, List.getElem?_eq_getElem (by omega)⟩
          obtain ⟨y, hy⟩ : ∃ y, b[k]? = some y := ⟨_, List.getElem?_eq_getElem (by omega)⟩
          have e1 := keepcell HV.out HZ.out
          have e2 := keepcell HV.out (HC1.out k x hx)
          have e3 := keepcell HV.out (HC2.out k y hy)
          have k0 : (0 : Int) ≤ (k : Int) := by omega
          have k1 : (k : Int) < (n : Int) := by omega
          have HS := Lib.hid (dif_step (z := z) hx hy)
          have hd := dif_le (a := a) (b := b) (z := z) (k := k)
          obtain ⟨m, hm⟩ : ∃ m, m = dif a b z k := ⟨_, rfl⟩
          rw [← hm] at HS hd ⊢
          have hm1 : -1000000 ≤ m := by omega
          have hm2 : m ≤ 1000000 := by omega
          have w1 : IntKind.i64.wrap (m + 1) = m + 1 := IntWalk.i64_in _ (by omega)
          have w2 : IntKind.i64.wrap (m - 1) = m - 1 := IntWalk.i64_in _ (by omega)
          have w3 : IntKind.i64.wrap (m + 1 - 1) = m + 1 - 1 := IntWalk.i64_in _ (by omega)
          clear hx hy hm hd
          by_cases hxz : x = z
          · have t1 : (x == z) = true := by rw [beq_iff_eq]; exact hxz
            by_cases hyz : y = z
            · have t2 : (y == z) = true := by rw [beq_iff_eq]; exact hyz
              have HT := Lib.hid (show m + 1 - 1 = dif a b z (k + 1) by rw [HS.out, if_pos hxz, if_pos hyz])
              clear hxz hyz HS
              go_wp2_with fail
              go_quiet (fail)
              go_wp2_with fail
              go_quiet (fail)
              go_wp2_with fail
              go_roundw
              case rel => exact ⟨k + 1, by omega, by go_num, by rw [← HT.out]; congr 1; omega, Lib.hid (below_drewN HV.out _)⟩
              case measure => simp [intOf]; omega
            · have t2 : (y == z) = false := by rw [beq_eq_false_iff_ne]; exact hyz
              have HT := Lib.hid (show m + 1 = dif a b z (k + 1) by rw [HS.out, if_pos hxz, if_neg hyz]; omega)
              clear hxz hyz HS
              go_wp2_with fail
              go_quiet (fail)
              go_wp2_with fail
              go_quiet (fail)
              go_wp2_with fail
              go_roundw
              case rel => exact ⟨k + 1, by omega, by go_num, by rw [← HT.out], Lib.hid (below_drewN HV.out _)⟩
              case measure => simp [intOf]; omega
          · have t1 : (x == z) = false := by rw [beq_eq_false_iff_ne]; exact hxz
            by_cases hyz : y = z
            · have t2 : (y == z) = true := by rw [beq_iff_eq]; exact hyz
              have HT := Lib.hid (show m - 1 = dif a b z (k + 1) by rw [HS.out, if_neg hxz, if_pos hyz]; omega)
              clear hxz hyz HS
              go_wp2_with fail
              go_quiet (fail)
              go_wp2_with fail
              go_quiet (fail)
              go_wp2_with fail
              go_roundw
              case rel => exact ⟨k + 1, by omega, by go_num, by rw [← HT.out], Lib.hid (below_drewN HV.out _)⟩
              case measure => simp [intOf]; omega
            · have t2 : (y == z) = false := by rw [beq_eq_false_iff_ne]; exact hyz
              have HT := Lib.hid (show m = dif a b z (k + 1) by rw [HS.out, if_neg hxz, if_neg hyz]; omega)
              clear hxz hyz HS
              go_wp2_with fail
              go_quiet (fail)
              go_wp2_with fail
              go_quiet (fail)
              go_wp2_with fail
              go_roundw
              case rel => exact ⟨k + 1, by omega, by go_num, by rw [← HT.out], Lib.hid (below_drewN HV.out _)⟩
              case measure => simp [intOf]; omega
        · have hkn : k = n := by omega
          subst hkn
          rw [dif_all hp.out la]
          go_wp2_with fail
          go_roundw
          case rel => exact ⟨i + 1, by omega, by go_num, HV⟩
          case measure => simp [intOf]; omega
    · go_wp2_with fail
      go_ret
      exact ⟨rfl, HW.out⟩
end Go.Proofs.YtcoccegmkcdeiaaDoor


/- Arguments that came in, opened: a slice of numbers; a ring; a slice of bytes. -/
namespace Go.Proofs.YtcoccegmkcdeiaaDoor
open Go.ChangeShapes Go.WideShapes Go.ChangeAt Go.RowKit
set_option linter.unusedVariables false

theorem open_row {H : Type} {enc : TypeId × Value → H} {W : World} {base : Nat} {spare : Nat → Bool} {held : Bool} {v : Value} {x : DataW H × List MemPlace} {fuel : Nat}
    (h : DataW.trod enc Tryd.prog W base spare held fuel 42 [v] = some x) : ∃ A n c zs, v = .slice A n c ∧ Row W A n c zs ∧ ∀ z ∈ zs, In64 z := by
  rcases open_ints Tryd.underlying42 Tryd.underlying3 (by kernel_rfl) h with ⟨hcs, _⟩ | ⟨a, len, cap, zs, hcs, _, hl, hm, hz, _, hcell, hw⟩
  · simp at hcs
    subst hcs
    exact ⟨none, 0, 0, [], rfl, Row.nothing _, fun z hz => by simp at hz⟩
  · simp only [List.cons.injEq, and_true] at hcs
    subst hcs
    have hzl : len ≤ zs.length := by rw [hz]; split <;> omega
    refine ⟨some a, len, cap, zs.take len, rfl, ⟨by rw [List.length_take]; omega, hl, by unfold maxLen at hm; omega, (fun e => by cases e), fun i z hi => ?_⟩, fun z hz => in64_of_wf (hw z (List.mem_of_mem_take hz))⟩
    have hil : i < len := by have := (List.getElem?_eq_some_iff.1 hi).1; rw [List.length_take] at this; omega
    rw [List.getElem?_take, if_pos hil] at hi
    have hc := hcell i (by omega)
    rw [show zs.getD i 0 = z by rw [List.getD, hi]; rfl] at hc
    obtain ⟨ab, ao, sp⟩ := a
    have hs : sp = none := by
      have := World.cell?_spot (hcell 0 (by omega))
      simpa [Addr.add] using this
    subst hs
    rw [add_lit'] at hc
    exact ⟨ab, ao, rfl, World.block_lt_of_cell? _ _ hc, hc⟩
set_option maxRecDepth 100000 in
/-- A ring that came in: its two parts. -/
theorem open_ring {H : Type} {enc : TypeId × Value → H} {W : World} {base b0 : Nat} {spare : Nat → Bool} {held : Bool} {v : Value} {d : DataW H} {p : List MemPlace}
    (hv : Value.okWide Tryd.prog W .any b0 53 v) (h : DataW.Trod enc Tryd.prog W base spare held 53 v d p) : ∃ x A n c zs, v = .agg #[.int .i64 x, .slice A n c] ∧ Row W A n c zs := by
  obtain ⟨c0, c1, y0, y1, m, rfl, rfl, rfl, hy0, hy1⟩ := Go.Joins.open_agg2 Tryd.underlying53 (by kernel_rfl) (by kernel_rfl) hv h
  obtain ⟨x, e0, _, w0⟩ := DataW.trod_int Tryd.underlying3 hy0
  injection e0 with e0 _
  subst e0
  obtain ⟨A, n, c, zs, rfl, hr, _⟩ := open_row hy1
  exact ⟨x, A, n, c, zs, rfl, hr⟩
/-- The bytes behind a slice's address. -/
def BRowL4 (w : World) (A : Option Addr) (zs : List Int) : Prop :=
  ∀ i z, zs[i]? = some z → ∃ b off, A = some ⟨b, off, none⟩ ∧ b < w.heap.size ∧ w.cell? ⟨b, off + i, none⟩ = some (.int .u8 z) ∧ 0 ≤ z ∧ z ≤ 255
theorem BRowL4.below {w w' : World} {A : Option Addr} {zs : List Int} (h : BRowL4 w A zs) (hb : Below w.heap.size w w') : BRowL4 w' A zs := by
  intro i z hi
  obtain ⟨b, off, e, hlt, hc, h0, h1⟩ := h i z hi
  exact ⟨b, off, e, Nat.lt_of_lt_of_le hlt hb.size, keepcell hb hc, h0, h1⟩
end Go.Proofs.YtcoccegmkcdeiaaDoor


/- ring.left and ring.behind, by their contracts. -/
namespace Go.Proofs.YtcoccegmkcdeiaaDoor
open Go.RowKit
set_option linter.unusedVariables false

theorem made_r {w w1 w' : World} {v : Value} {n : Nat} {zs : List Int} {ty : TypeId} {base : Nat} (hb : Below w.heap.size w w1) (hown : w'.ownsRow base ty 1 v n (zs.map (Value.int .i64))) (hbase : w.heap.size ≤ base) (hb1 : Below w1.heap.size w1 w') : MadeR w zs (.returned v) w' := by
  obtain ⟨A, c, rfl, hr, hf⟩ := Row.of_own' hown
  exact ⟨A, n, c, rfl, hr, hf.mono hbase, hb.trans (hb1.mono hb.size)⟩
theorem own_base' {w : World} {b1 b2 n size : Nat} {e : TypeId} {v : Value} {xs : List Value} (h : w.ownsRow b1 e size v n xs) (hb : b2 ≤ b1) : w.ownsRow b2 e size v n xs := by
  refine ⟨h.1, ?_⟩
  rcases h.2 with h0 | ⟨g, cap, cur, e1, hg, h3⟩
  · exact .inl h0
  · exact .inr ⟨g, cap, cur, e1, Nat.le_trans hb hg, h3⟩
theorem below_none {w w' : World} (hg : w.grownBy w' none) : Below w.heap.size w w' := (Below.refl _ _).grown hg (Nat.le_refl _) (fun k hk => by cases hk)
theorem left_own (A : Option Addr) (n c : Nat) (zs : List Int) (k : Nat) (w : World) (h : Row w A n c zs) (hn : n ≤ 1000000) (hk : k ≤ n) :
    Calls Tryd.prog 42 #[.slice A n c, .int .i64 k] w (MadeO w (zs.drop k)) := by
  obtain ⟨i0, hi, hz0, hz1, hz2⟩ := info_parts info_int
  have h1 := h.cap
  have h2 := h.most
  by_cases hkn : k = n
  · subst hkn
    have e : zs.drop k = [] := List.drop_of_length_le (by rw [h.len]; exact Nat.le_refl _)
    rw [e]
    clear e h
    go_enter Tryd.func42, Tryd.ntmps42
    go_wp2_with fail
    go_ret
    exact ⟨_, 0, rfl, World.ownsRow_nil _ _ _ _, Below.refl _ _⟩
  · obtain ⟨b, off, rfl, hb, hc⟩ := h.cells (by omega)
    have t1 : ((k : Int) == (n : Int)) = false := by rw [beq_eq_false_iff_ne]; omega
    have t2 : (0 : Int) ≤ (k : Int) := by omega
    have t3 : (k : Int) ≤ (n : Int) := by omega
    have t4 : (k : Int) ≤ (c : Int) := by omega
    have t5 : ¬ c = k := by omega
    have hd := h.drop k hk
    have H := Lib.hid hd
    clear h hd hc
    go_enter Tryd.func42, Tryd.ntmps42
    go_wp2_with fail
    go_region_held3 (fun w' => True) (trivial) ((refine step_append_grows rfl (.tmp 13) (.tmp 16) 42 rfl 3 i0 (.int .i64 0) 1 8 Tryd.underlying42 hi hz0 hz1 hz2 rfl (by decide) _ 0 0 [] (by rfl) (by intro e; cases e) rfl (by intro ad e j u hj; cases hj) ⟨b, off + k, none⟩ (n - k) (c - k) ((zs.drop k).map (Value.int .i64)) (by rfl) (by rw [List.length_map, H.out.len]; omega) H.out.icells (icells_one _) (by omega) (by unfold maxLen; omega) (by omega) ?_; intro v1 w1 hown hg))
    rw [List.nil_append] at hown
    have HM : MadeO w (zs.drop k) (.returned v1) w1 := ⟨_, _, rfl, own_base' hown (Nat.le_refl _), below_of_drew (below_none (w := w.drew) hg)⟩
    clear hown hg
    go_wp2_with fail
    go_ret
    exact HM
theorem left_any (A : Option Addr) (n c : Nat) (zs : List Int) (k : Nat) (w : World) (h : Row w A n c zs) (hn : n ≤ 1000000) (hk : k ≤ n) :
    Calls Tryd.prog 42 #[.slice A n c, .int .i64 k] w (MadeR w (zs.drop k)) := (left_own A n c zs k w h hn hk).mono fun _ _ => MadeO.madeR
/-- The same, at a number that comes to k. -/
theorem left_at (A : Option Addr) (n c : Nat) (zs : List Int) (k : Nat) (z : Int) (w : World) (hz : z = k) (h : Row w A n c zs) (hn : n ≤ 1000000) (hk : k ≤ n) :
    Calls Tryd.prog 42 #[.slice A n c, .int .i64 z] w (MadeR w (zs.drop k)) := by
  subst hz
  exact left_any A n c zs k w h hn hk
/-- What a call leaves that has made a ring and a row. -/
def MadeRL (w0 : World) (r : (Int × List Int) × List Int) (e : Ending) (w' : World) : Prop :=
  ∃ A n c B m d, e = .returned (.tuple #[.agg #[.int .i64 r.1.1, .slice A n c], .slice B m d]) ∧ Row w' A n c r.1.2 ∧ From w0.heap.size A ∧ Row w' B m d r.2 ∧ From w0.heap.size B ∧ Below w0.heap.size w0 w'
/-- The end: the ring is told by its place, and the row. -/
theorem made_rl {w W2 : World} {r : (Int × List Int) × List Int} {A B : Option Addr} {n m c d : Nat} {x : Int} {u v : Value} (hx : x = r.1.1) (ha : Row W2 A n c r.1.2) (fa : From (w.heap.size + 2) A) (hb : Row W2 B m d r.2) (fb : From (w.heap.size + 2) B) (hbe : Below w.heap.size w W2) :
    MadeRL w r (.returned (.tuple #[.agg #[.int .i64 x, .slice A n c], .slice B m d])) ((W2.setCell ⟨w.heap.size + 1, 0, none⟩ u).setCell ⟨w.heap.size + 1, 1, none⟩ v) := by
  subst hx
  exact ⟨A, n, c, B, m, d, rfl, (ha.set fa).set fa, fa.mono (by omega), (hb.set fb).set fb, fb.mono (by omega), (hbe.setCell (by simp) _).setCell (by simp) _⟩
end Go.Proofs.YtcoccegmkcdeiaaDoor


/- ring.All and ring.Half, by their contracts. -/
namespace Go.Proofs.YtcoccegmkcdeiaaDoor
open Go.RowKit
set_option linter.unusedVariables false

set_option maxHeartbeats 1600000 in
theorem all_own (x : Int) (A : Option Addr) (n c : Nat) (zs : List Int) (w : World) (h : Row w A n c zs) (hn : n ≤ 100000) :
    Calls Tryd.prog 14 #[.agg #[.int .i64 x, .slice A n c]] w (MadeO w (Rp.all (x, zs))) := by
  have H := Lib.hid h
  clear h
  by_cases hx : x = 0
  · subst hx
    have hb := Lib.hid (below_new w (.cells #[.int .i64 0, .slice A n c] 45))
    have HR := Lib.hid (show Rp.all (0, zs) = zs from rfl)
    go_enter Tryd.func14, Tryd.ntmps14
    go_wp2_with fail
    refine (left_own A n c zs 0 _ (H.out.below hb.out) (by omega) (by omega)).mono ?_
    rintro e w2 ⟨v2, n2, rfl, ho2, hb2⟩
    rw [List.drop_zero] at ho2
    go_wp2_with fail
    go_ret
    exact ⟨v2, n2, rfl, by rw [HR.out]; exact own_base' ho2 hb.out.size, hb.out.trans (hb2.mono hb.out.size)⟩
  · have t1 : (x == 0) = false := by rw [beq_eq_false_iff_ne]; exact hx
    have HR := Lib.hid (show Rp.all (x, zs) = [x] ++ zs by unfold Rp.all; rw [if_neg hx]; rfl)
    have hb := Lib.hid (below_new w (.cells #[.int .i64 x, .slice A n c] 45))
    have hb1 := Lib.hid (below_new (w.alloc (.cells #[.int .i64 x, .slice A n c] 45)) (.cells #[.int .i64 x] 3))
    have hown := Lib.hid (own_lit (w.alloc (.cells #[.int .i64 x, .slice A n c] 45)) [x] w.heap.size (by simp) (by simp))
    go_enter Tryd.func14, Tryd.ntmps14
    go_wp2_with (at_builtin; refine wpList_append_row rfl (.tmp 11) (.tmp 13) rfl w.heap.size (.slice (some ⟨w.heap.size + 1, 0, none⟩) 1 1) 1 [x] rfl ?c1 A n c zs rfl ?c2 (by omega) ?c3 ?_)
    case c1 => simpa using hown.out
    case c2 => exact (H.out.below hb.out).below hb1.out
    case c3 => simp; omega
    intro v2 w2 hown2 hg2
    have hbe : Below w.heap.size w w2 := (hb.out.trans (hb1.out.mono hb.out.size)).grown hg2 (by simp; omega) (fun k hk => by simp [Value.ownBlock] at hk; omega)
    have ho2 : w2.ownsRow w.heap.size 3 1 v2 (1 + n) (([x] ++ zs).map (Value.int .i64)) := by simpa using hown2
    clear hown2
    go_wp2_with fail
    go_ret
    exact ⟨v2, _, rfl, by rw [HR.out]; exact ho2, hbe⟩
theorem all_any (x : Int) (A : Option Addr) (n c : Nat) (zs : List Int) (w : World) (h : Row w A n c zs) (hn : n ≤ 100000) :
    Calls Tryd.prog 14 #[.agg #[.int .i64 x, .slice A n c]] w (MadeR w (Rp.all (x, zs))) := (all_own x A n c zs w h hn).mono fun _ _ => MadeO.madeR
end Go.Proofs.YtcoccegmkcdeiaaDoor


/- The document's comparison of rings, and the two ways between the program's rings and the document's, by their contracts. -/
namespace Go.Proofs.YtcoccegmkcdeiaaDoor
open Go.RowKit
set_option linter.unusedVariables false

/-- What a call leaves that tells a ring of given members. -/
def TellR (w0 : World) (r : Int × List Int) (e : Ending) (w' : World) : Prop :=
  ∃ A n c, e = .returned (.agg #[.int .i64 r.1, .slice A n c]) ∧ Row w' A n c r.2 ∧ Below w0.heap.size w0 w'
theorem told_r {w W2 : World} {r : Int × List Int} {A : Option Addr} {n c : Nat} {x : Int} {u v : Value} (ha : Row W2 A n c r.2) (fa : From (w.heap.size + 2) A) (hbe : Below w.heap.size w W2) (hx : x = r.1) :
    TellR w r (.returned (.agg #[.int .i64 x, .slice A n c])) ((W2.setCell ⟨w.heap.size + 1, 0, none⟩ u).setCell ⟨w.heap.size + 1, 1, none⟩ v) := by
  subst hx
  exact ⟨A, n, c, rfl, (ha.set fa).set fa, (hbe.setCell (by simp) _).setCell (by simp) _⟩
end Go.Proofs.YtcoccegmkcdeiaaDoor


/- The document's Take, All and Half, by their contracts. -/
namespace Go.Proofs.YtcoccegmkcdeiaaDoor
open Go.RowKit
set_option linter.unusedVariables false

/-- What a call leaves that tells a ring and a number. -/
def TellRI (w0 : World) (r : (Int × List Int) × Int) (e : Ending) (w' : World) : Prop :=
  ∃ A n c, e = .returned (.tuple #[.agg #[.int .i64 r.1.1, .slice A n c], .int .i64 r.2]) ∧ Row w' A n c r.1.2 ∧ Below w0.heap.size w0 w'
/-- What a call leaves that tells a ring and a row. -/
def TellRL (w0 : World) (r : (Int × List Int) × List Int) (e : Ending) (w' : World) : Prop :=
  ∃ A n c B m d, e = .returned (.tuple #[.agg #[.int .i64 r.1.1, .slice A n c], .slice B m d]) ∧ Row w' A n c r.1.2 ∧ Row w' B m d r.2 ∧ Below w0.heap.size w0 w'
def TellL (w0 : World) (l : List Int) (e : Ending) (w' : World) : Prop :=
  ∃ A n c, e = .returned (.slice A n c) ∧ Row w' A n c l ∧ Below w0.heap.size w0 w'
set_option maxHeartbeats 1000000 in
theorem refAll_any (x : Int) (A : Option Addr) (n c : Nat) (zs : List Int) (w : World) (h : Row w A n c zs) (hn : n ≤ 100000) :
    Calls Tryd.prog 25 #[.agg #[.int .i64 x, .slice A n c]] w (TellL w (Rp.all (x, zs))) := by
  have H := Lib.hid h
  clear h
  by_cases hx : x = 0
  · subst hx
    have hb := Lib.hid (below_new w (.cells #[.int .i64 0, .slice A n c] 53))
    have HR := Lib.hid (show Rp.all (0, zs) = zs from rfl)
    go_enter Tryd.func25, Tryd.ntmps25
    go_wp2_with fail
    go_ret
    exact ⟨A, n, c, rfl, by rw [HR.out]; exact H.out.below hb.out, hb.out⟩
  · have t1 : (x == 0) = false := by rw [beq_eq_false_iff_ne]; exact hx
    have HR := Lib.hid (show Rp.all (x, zs) = [x] ++ zs by unfold Rp.all; rw [if_neg hx]; rfl)
    have hb := Lib.hid (below_new w (.cells #[.int .i64 x, .slice A n c] 53))
    have hb1 := Lib.hid (below_new (w.alloc (.cells #[.int .i64 x, .slice A n c] 53)) (.cells #[.int .i64 x] 3))
    have hown := Lib.hid (own_lit (w.alloc (.cells #[.int .i64 x, .slice A n c] 53)) [x] w.heap.size (by simp) (by simp))
    go_enter Tryd.func25, Tryd.ntmps25
    go_wp2_with (at_builtin; refine wpList_append_row rfl (.tmp 10) (.tmp 12) rfl w.heap.size (.slice (some ⟨w.heap.size + 1, 0, none⟩) 1 1) 1 [x] rfl ?c1 A n c zs rfl ?c2 (by omega) ?c3 ?_)
    case c1 => simpa using hown.out
    case c2 => exact (H.out.below hb.out).below hb1.out
    case c3 => simp; omega
    intro v2 w2 hown2 hg2
    have hbe : Below w.heap.size w w2 := (hb.out.trans (hb1.out.mono hb.out.size)).grown hg2 (by simp; omega) (fun k hk => by simp [Value.ownBlock] at hk; omega)
    obtain ⟨A2, c2, rfl, hr2⟩ := Row.of_own (zs := [x] ++ zs) (by simpa using hown2)
    go_wp2_with fail
    go_ret
    exact ⟨A2, _, c2, rfl, by rw [HR.out]; exact hr2, hbe⟩
theorem told_ri {w W2 : World} {r : (Int × List Int) × Int} {A : Option Addr} {n c : Nat} {x y : Int} {u v : Value} (ha : Row w A n c r.1.2) (hbe : Below w.heap.size w W2) (hx : x = r.1.1) (hy : y = r.2) :
    TellRI w r (.returned (.tuple #[.agg #[.int .i64 x, .slice A n c], .int .i64 y])) ((W2.setCell ⟨w.heap.size + 1, 0, none⟩ u).setCell ⟨w.heap.size + 1, 1, none⟩ v) := by
  subst hx hy
  have hb := (hbe.setCell (p := ⟨w.heap.size + 1, 0, none⟩) (by simp) u).setCell (p := ⟨w.heap.size + 1, 1, none⟩) (by simp) v
  exact ⟨A, n, c, rfl, ha.below hb, hb⟩
theorem TellRI.drew {w W : World} {r : (Int × List Int) × Int} {e : Ending} (h : TellRI w r e W) : TellRI w r e W.drew := by
  obtain ⟨A, n, c, he, hr, hb⟩ := h
  exact ⟨A, n, c, he, hr.drew, hb.drew⟩
theorem TellRL.drew {w W : World} {r : (Int × List Int) × List Int} {e : Ending} (h : TellRL w r e W) : TellRL w r e W.drew := by
  obtain ⟨A, n, c, B, m, d, he, hr, hs, hb⟩ := h
  exact ⟨A, n, c, B, m, d, he, hr.drew, hs.drew, hb.drew⟩
end Go.Proofs.YtcoccegmkcdeiaaDoor

