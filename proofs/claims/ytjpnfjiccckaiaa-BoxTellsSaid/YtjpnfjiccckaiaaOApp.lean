/- Rows of pairs with their capacity; appends to rows of 64-bit numbers and of pairs; four cells of a block. -/
import Derived.Test.YtjpnfjiccckaiaaRApp
import Derived.Test.YtjpnfjiccckaiaaVx
import Derived.Test.YtjpnfjiccckaiaaOPlain
namespace Go.Proofs.Ytjpnfjiccckaiaa
open Go.RowKit
set_option linter.unusedVariables false

theorem info_i64 : (Try.prog.info? 2).map (fun i => (i.zero, i.size, i.bytes)) = some (some (.int .i64 0), 1, 8) := by kernel_rfl
theorem run_append_row64 (w : World) (ty : TypeId) (base : Nat) (v : Value) (n : Nat) (xs : List Int) (hown : w.ownsRow base 2 1 v n (xs.map (Value.int .i64)))
    (A : Option Addr) (m c : Nat) (zs : List Int) (h : Row w A m c zs) (hb : n + m ≤ 1000000) (hbase : base ≤ w.heap.size) :
    ∃ v' w', (Builtin.append_ #[22, 22] ty #[v, .slice A m c]).run Try.prog w = .ok v' w' ∧ w'.ownsRow base 2 1 v' (n + m) ((xs ++ zs).map (Value.int .i64)) ∧ w.grownBy w' v.ownBlock := by
  obtain ⟨i0, hi, hz0, hz1, hz2⟩ := info_parts info_i64
  have hl := h.len
  cases A with
  | none =>
    have hc := h.nil rfl
    have h2 := h.cap
    subst hc
    have hm : m = 0 := by omega
    subst hm
    have hv : zs = [] := List.length_eq_zero_iff.1 hl
    subst hv
    exact ⟨v, w, run_append_owned_none (P := Try.prog) w base 22 ty 2 i0 1 Try.underlying22 hi v n _ hown, by rw [List.append_nil, Nat.add_zero]; exact hown, World.grownBy.refl w _⟩
  | some ad =>
    have hcells : ∀ j u, (zs.map (Value.int .i64))[j]? = some u → w.cell? (ad.add j) = some u := by
      cases zs with
      | nil => intro j u hj; simp at hj
      | cons y ys =>
        obtain ⟨b, off, e, _⟩ := h.row 0 y rfl
        injection e with e
        subst e
        exact h.icells
    obtain ⟨v', w', h1, h2, h3, _⟩ := run_append_own (P := Try.prog) w base 22 ty 2 i0 _ 1 8 Try.underlying22 hi hz0 hz1 hz2 rfl (by decide) v n _ hown ad m c _ (by rw [List.length_map, hl]; omega) hcells (icells_one zs) (by unfold maxLen; omega) (by omega) hbase
    exact ⟨v', w', h1, by rw [List.map_append]; exact h2, h3⟩
theorem wpList_append_row64 {w : World} {ops : Array Oper} {rest : List Oper} {o : Oper} {a : Act} {Q : Exit → Act → World → Prop} (hgd : o.guard = none) (s x : Operand)
    (ho : o.op = .call { callee := .builtin .append, args := #[s, x], argTypes := #[22, 22] })
    (base : Nat) (v : Value) (n : Nat) (xs : List Int) (hs : a.eval s = v) (hown : w.ownsRow base 2 1 v n (xs.map (Value.int .i64)))
    (A : Option Addr) (m c : Nat) (zs : List Int) (hx : a.eval x = .slice A m c) (h : Row w A m c zs) (hb : n + m ≤ 1000000) (hbase : base ≤ w.heap.size)
    (hK : ∀ v' w', w'.ownsRow base 2 1 v' (n + m) ((xs ++ zs).map (Value.int .i64)) → w.grownBy w' v.ownBlock → wpList Try.prog ops Q rest (a.put o.dst v') w') : wpList Try.prog ops Q (o :: rest) a w := by
  obtain ⟨v', w', hr, h2, h3⟩ := run_append_row64 w o.type base v n xs hown A m c zs h hb hbase
  refine wpList_plain hgd fun K hK' => ?_
  unfold Oper.wp
  simp [execOp, ho, resolve, invoke, builtin, hs, hx, hr, Result.andThen]
  exact hK' _ _ (hK v' w' h2 h3)
theorem step_append_row64 {w : World} {ops : Array Oper} {o : Oper} {a : Act} {K : Act → World → Prop} {Q : Exit → Act → World → Prop} {E : Prop} (hgd : o.guard = none) (s x : Operand)
    (ho : o.op = .call { callee := .builtin .append, args := #[s, x], argTypes := #[22, 22] })
    (base : Nat) (v : Value) (n : Nat) (xs : List Int) (hs : a.eval s = v) (hown : w.ownsRow base 2 1 v n (xs.map (Value.int .i64)))
    (A : Option Addr) (m c : Nat) (zs : List Int) (hx : a.eval x = .slice A m c) (h : Row w A m c zs) (hb : n + m ≤ 1000000) (hbase : base ≤ w.heap.size)
    (hK : ∀ v' w', w'.ownsRow base 2 1 v' (n + m) ((xs ++ zs).map (Value.int .i64)) → w.grownBy w' v.ownBlock → K (a.put o.dst v') w') :
    if Region.wanted o (yielded ops a.tmps) = true then Oper.wp Try.prog o a w K Q else E := by
  obtain ⟨v', w', hr, h2, h3⟩ := run_append_row64 w o.type base v n xs hown A m c zs h hb hbase
  have hw : Region.wanted o (yielded ops a.tmps) = true := by simp [Region.wanted, hgd]
  rw [if_pos hw]
  unfold Oper.wp
  simp [execOp, ho, resolve, invoke, builtin, hs, hx, hr, Result.andThen]
  exact hK v' w' h2 h3
theorem row_at64 (w : World) (g : Int) (Y : Nat) (hY : w.heap.size = Y) : Row (w.alloc (.cells #[.int .i64 g] 2)) (some ⟨Y, 0, none⟩) 1 1 [g] := by
  subst hY
  have ho : (w.alloc (.cells #[.int .i64 g] 2)).ownsRow w.heap.size 2 1 (.slice (some ⟨w.heap.size, 0, none⟩) 1 1) 1 ([g].map (Value.int .i64)) :=
    ⟨rfl, .inr ⟨w.heap.size, 1, _, rfl, Nat.le_refl _, heap_alloc_new w _, Nat.le_refl _, by unfold maxLen; omega, rfl, rfl⟩⟩
  obtain ⟨A, c, e, hr⟩ := Row.of_own ho
  injection e with e1 e2 e3
  subst e1 e3
  exact hr
/-- A slice of pairs, with its capacity. -/
structure PR (w : World) (A : Option Addr) (n c : Nat) (vs : List (Int × Int)) : Prop where
  len : vs.length = n
  cap : n ≤ c
  most : c ≤ 9223372036854775807
  nil : A = none → c = 0
  row : VRow w w.heap.size A vs
theorem PR.below {w w' : World} {A : Option Addr} {n c : Nat} {vs : List (Int × Int)} (h : PR w A n c vs) (hb : Below w.heap.size w w') : PR w' A n c vs :=
  ⟨h.len, h.cap, h.most, h.nil, (h.row.below hb).more hb.size⟩
theorem PR.nothing (w : World) : PR w none 0 0 [] := ⟨rfl, Nat.le_refl _, by omega, fun _ => rfl, fun i z h => by simp at h⟩
theorem PR.of_own {w : World} {base n : Nat} {e : TypeId} {v : Value} {vs : List (Int × Int)} (h : w.ownsRow base e 2 v n (vcells vs)) : ∃ A c, v = .slice A n c ∧ PR w A n c vs := by
  have hl := own_vlen h
  rcases h.2 with ⟨rfl, rfl⟩ | ⟨g, cap, cur, rfl, _, _, h1, h2, _⟩
  · exact ⟨_, _, rfl, hl, Nat.le_refl _, by omega, (fun _ => rfl), VRow.of_own h⟩
  · exact ⟨_, _, rfl, hl, h1, by unfold maxLen at h2; omega, (fun e => by cases e), VRow.of_own h⟩
theorem PR.of_own' {w : World} {base n : Nat} {e : TypeId} {v : Value} {vs : List (Int × Int)} (h : w.ownsRow base e 2 v n (vcells vs)) : ∃ A c, v = .slice A n c ∧ PR w A n c vs ∧ From base A := by
  obtain ⟨A, c, rfl, hr⟩ := PR.of_own h
  refine ⟨A, c, rfl, hr, fun ad e => ?_⟩
  subst e
  exact (h.lt _ rfl).1
theorem pr_of_two (w : World) (g n : Int) (T : TypeId) : PR (w.alloc (.cells #[.int .i64 g, .int .i64 n] T)) (some ⟨w.heap.size, 0, none⟩) 1 1 [(g, n)] := by
  have ho : (w.alloc (.cells #[.int .i64 g, .int .i64 n] T)).ownsRow w.heap.size T 2 (.slice (some ⟨w.heap.size, 0, none⟩) 1 1) 1 (vcells [(g, n)]) :=
    ⟨rfl, .inr ⟨w.heap.size, 1, _, rfl, Nat.le_refl _, heap_alloc_new w _, Nat.le_refl _, by unfold maxLen; omega, rfl, rfl⟩⟩
  obtain ⟨A, c, e, hr⟩ := PR.of_own ho
  injection e with e1 e2 e3
  subst e1 e3
  exact hr
/-- The address and the cells of a row that has a member. -/
theorem PR.cells {w : World} {A : Option Addr} {n c : Nat} {vs : List (Int × Int)} (h : PR w A n c vs) (hn : 0 < n) : ∃ b off, A = some ⟨b, off, none⟩ ∧ b < w.heap.size ∧ ∀ j z, vs[j]? = some z → w.cell? ⟨b, off + j * 2, none⟩ = some (.int .i64 z.1) ∧ w.cell? ⟨b, off + j * 2 + 1, none⟩ = some (.int .i64 z.2) := by
  obtain ⟨z0, h0⟩ : ∃ z, vs[0]? = some z := ⟨_, List.getElem?_eq_getElem (by rw [h.len]; exact hn)⟩
  obtain ⟨b, off, rfl, hb, _⟩ := h.row 0 z0 h0
  refine ⟨b, off, rfl, hb, fun j z hj => ?_⟩
  obtain ⟨b', off', e, _, hc⟩ := h.row j z hj
  injection e with e
  injection e with e1 e2
  subst e1 e2
  exact hc
theorem PR.drop {w : World} {b off n c : Nat} {vs : List (Int × Int)} (h : PR w (some ⟨b, off, none⟩) n c vs) (k : Nat) (hk : k ≤ n) : PR w (some ⟨b, off + k * 2, none⟩) (n - k) (c - k) (vs.drop k) := by
  refine ⟨by rw [List.length_drop, h.len], by have := h.cap; omega, by have := h.most; omega, fun e => (by cases e), fun i z hi => ?_⟩
  rw [List.getElem?_drop] at hi
  obtain ⟨b', off', e, hb, h1, h2⟩ := h.row _ _ hi
  injection e with e
  injection e with e1 e2
  subst e1 e2
  rw [Nat.add_mul, ← Nat.add_assoc] at h1 h2
  exact ⟨_, _, rfl, hb, h1, h2⟩
theorem PR.slice {w : World} {b off n c : Nat} {vs : List (Int × Int)} (h : PR w (some ⟨b, off, Option.none⟩) n c vs) (k : Nat) (hk : k ≤ n) : PR w (if c = k then some ⟨b, off, Option.none⟩ else some ⟨b, off + k * 2, Option.none⟩) (n - k) (c - k) (vs.drop k) := by
  by_cases e : c = k
  · rw [if_pos e]
    have h1 := h.cap
    have h2 : n - k = 0 := by omega
    have h3 : c - k = 0 := by omega
    rw [h2, h3, List.drop_of_length_le (by rw [h.len]; omega)]
    exact ⟨rfl, Nat.le_refl _, by omega, fun _ => rfl, fun i z hi => by simp at hi⟩
  · rw [if_neg e]
    exact h.drop k hk
theorem PR.drew {w : World} {A : Option Addr} {n c : Nat} {vs : List (Int × Int)} (h : PR w A n c vs) : PR w.drew A n c vs := ⟨h.len, h.cap, h.most, h.nil, h.row⟩
theorem PR.step {W W' : World} {A : Option Addr} {n c : Nat} {vs : List (Int × Int)} (h : PR W A n c vs) (hb : Below W.heap.size W W') : PR W' A n c vs := h.below hb
theorem PR.far {W : World} {X j n c : Nat} {A : Option Addr} {vs : List (Int × Int)} {u : Value} (h : PR W A n c vs) (ha : ∀ ad, A = some ad → ad.block ≠ X) : PR (W.setCell ⟨X, j, Option.none⟩ u) A n c vs := by
  refine ⟨h.len, h.cap, h.most, h.nil, fun i z hi => ?_⟩
  obtain ⟨b, off, e, hb, h1, h2⟩ := h.row i z hi
  have hne := ha _ e
  simp only at hne
  exact ⟨b, off, e, by simpa [World.setCell] using hb, (World.cell?_setCell_other _ _ _ _ (fun e => by injection e with e; omega)).trans h1, (World.cell?_setCell_other _ _ _ _ (fun e => by injection e with e; omega)).trans h2⟩
theorem PR.grown {w w' : World} {A : Option Addr} {n c : Nat} {vs : List (Int × Int)} {row : Option Nat} (h : PR w A n c vs) (hg : w.grownBy w' row) (hne : ∀ ad, A = some ad → some ad.block ≠ row) : PR w' A n c vs := by
  refine ⟨h.len, h.cap, h.most, h.nil, fun i z hi => ?_⟩
  obtain ⟨b, off, e, hb, h1, h2⟩ := h.row i z hi
  have := hne _ e
  exact ⟨b, off, e, Nat.lt_of_lt_of_le hb hg.size, (hg.cell h1 this), (hg.cell h2 this)⟩
theorem Row.farj {W : World} {X j n c : Nat} {A : Option Addr} {zs : List Int} {u : Value} (h : Row W A n c zs) (ha : ∀ ad, A = some ad → ad.block ≠ X) : Row (W.setCell ⟨X, j, Option.none⟩ u) A n c zs := by
  refine ⟨h.len, h.cap, h.most, h.nil, fun i z hi => ?_⟩
  obtain ⟨b, off, e, hb, hc⟩ := h.row i z hi
  have hne := ha _ e
  simp only at hne
  exact ⟨b, off, e, by simpa [World.setCell] using hb, (World.cell?_setCell_other _ _ _ _ (fun e => by injection e with e; omega)).trans hc⟩
theorem info_mail : (Try.prog.info? 52).map (fun i => (i.zero, i.size, i.bytes)) = some (some (.agg #[.int .i64 0, .int .i64 0]), 2, 16) := by kernel_rfl
theorem run_append_mail (w : World) (ty : TypeId) (base : Nat) (v : Value) (n : Nat) (xs : List (Int × Int)) (hown : w.ownsRow base 52 2 v n (vcells xs))
    (A : Option Addr) (m c : Nat) (vs : List (Int × Int)) (h : PR w A m c vs) (hb : n + m ≤ 1000000) (hbase : base ≤ w.heap.size) :
    ∃ v' w', (Builtin.append_ #[29, 29] ty #[v, .slice A m c]).run Try.prog w = .ok v' w' ∧ w'.ownsRow base 52 2 v' (n + m) (vcells (xs ++ vs)) ∧ w.grownBy w' v.ownBlock := by
  obtain ⟨i0, hi, hz0, hz1, hz2⟩ := info_parts info_mail
  have hm := h.len
  have hr := h.row
  cases A with
  | none =>
    have hc := h.nil rfl
    have hcap := h.cap
    subst hc
    have hm0 : m = 0 := by omega
    subst hm0
    have hv : vs = [] := List.length_eq_zero_iff.1 hm
    subst hv
    exact ⟨v, w, run_append_owned_none (P := Try.prog) w base 29 ty 52 i0 2 Try.underlying29 hi v n _ hown, by rw [List.append_nil, Nat.add_zero]; exact hown, World.grownBy.refl w _⟩
  | some ad =>
    have hcells : ∀ j u, (vcells vs)[j]? = some u → w.cell? (ad.add j) = some u := by
      cases vs with
      | nil => intro j u hj; simp [vcells] at hj
      | cons y ys =>
        obtain ⟨b, off, e, _⟩ := hr 0 y rfl
        injection e with e
        subst e
        exact hr.cells
    obtain ⟨v', w', h1, h2, h3, _⟩ := run_append_own (P := Try.prog) w base 29 ty 52 i0 _ 2 16 Try.underlying29 hi hz0 hz1 hz2 rfl (by decide) v n _ hown ad m c _ (by rw [vcells_length, hm]) hcells (vcells_one' vs) (by unfold maxLen; omega) (by omega) hbase
    exact ⟨v', w', h1, by rw [vcells_append]; exact h2, h3⟩
theorem wpList_append_mail {w : World} {ops : Array Oper} {rest : List Oper} {o : Oper} {a : Act} {Q : Exit → Act → World → Prop} (hgd : o.guard = none) (s x : Operand)
    (ho : o.op = .call { callee := .builtin .append, args := #[s, x], argTypes := #[29, 29] })
    (base : Nat) (v : Value) (n : Nat) (xs : List (Int × Int)) (hs : a.eval s = v) (hown : w.ownsRow base 52 2 v n (vcells xs))
    (A : Option Addr) (m c : Nat) (vs : List (Int × Int)) (hx : a.eval x = .slice A m c) (h : PR w A m c vs) (hb : n + m ≤ 1000000) (hbase : base ≤ w.heap.size)
    (hK : ∀ v' w', w'.ownsRow base 52 2 v' (n + m) (vcells (xs ++ vs)) → w.grownBy w' v.ownBlock → wpList Try.prog ops Q rest (a.put o.dst v') w') : wpList Try.prog ops Q (o :: rest) a w := by
  obtain ⟨v', w', hr, h2, h3⟩ := run_append_mail w o.type base v n xs hown A m c vs h hb hbase
  refine wpList_plain hgd fun K hK' => ?_
  unfold Oper.wp
  simp [execOp, ho, resolve, invoke, builtin, hs, hx, hr, Result.andThen]
  exact hK' _ _ (hK v' w' h2 h3)
theorem step_append_mail {w : World} {ops : Array Oper} {o : Oper} {a : Act} {K : Act → World → Prop} {Q : Exit → Act → World → Prop} {E : Prop} (hgd : o.guard = none) (s x : Operand)
    (ho : o.op = .call { callee := .builtin .append, args := #[s, x], argTypes := #[29, 29] })
    (base : Nat) (v : Value) (n : Nat) (xs : List (Int × Int)) (hs : a.eval s = v) (hown : w.ownsRow base 52 2 v n (vcells xs))
    (A : Option Addr) (m c : Nat) (vs : List (Int × Int)) (hx : a.eval x = .slice A m c) (h : PR w A m c vs) (hb : n + m ≤ 1000000) (hbase : base ≤ w.heap.size)
    (hK : ∀ v' w', w'.ownsRow base 52 2 v' (n + m) (vcells (xs ++ vs)) → w.grownBy w' v.ownBlock → K (a.put o.dst v') w') :
    if Region.wanted o (yielded ops a.tmps) = true then Oper.wp Try.prog o a w K Q else E := by
  obtain ⟨v', w', hr, h2, h3⟩ := run_append_mail w o.type base v n xs hown A m c vs h hb hbase
  have hw : Region.wanted o (yielded ops a.tmps) = true := by simp [Region.wanted, hgd]
  rw [if_pos hw]
  unfold Oper.wp
  simp [execOp, ho, resolve, invoke, builtin, hs, hx, hr, Result.andThen]
  exact hK v' w' h2 h3
theorem pr_at_mail (w : World) (g n : Int) (Y : Nat) (hY : w.heap.size = Y) : PR (w.alloc (.cells #[.int .i64 g, .int .i64 n] 52)) (some ⟨Y, 0, none⟩) 1 1 [(g, n)] := by
  subst hY
  exact pr_of_two w g n 52
theorem info_rmail : (Try.prog.info? 51).map (fun i => (i.zero, i.size, i.bytes)) = some (some (.agg #[.int .i64 0, .int .i64 0]), 2, 16) := by kernel_rfl
theorem run_append_rmail (w : World) (ty : TypeId) (base : Nat) (v : Value) (n : Nat) (xs : List (Int × Int)) (hown : w.ownsRow base 51 2 v n (vcells xs))
    (A : Option Addr) (m c : Nat) (vs : List (Int × Int)) (h : PR w A m c vs) (hb : n + m ≤ 1000000) (hbase : base ≤ w.heap.size) :
    ∃ v' w', (Builtin.append_ #[23, 23] ty #[v, .slice A m c]).run Try.prog w = .ok v' w' ∧ w'.ownsRow base 51 2 v' (n + m) (vcells (xs ++ vs)) ∧ w.grownBy w' v.ownBlock := by
  obtain ⟨i0, hi, hz0, hz1, hz2⟩ := info_parts info_rmail
  have hm := h.len
  have hr := h.row
  cases A with
  | none =>
    have hc := h.nil rfl
    have hcap := h.cap
    subst hc
    have hm0 : m = 0 := by omega
    subst hm0
    have hv : vs = [] := List.length_eq_zero_iff.1 hm
    subst hv
    exact ⟨v, w, run_append_owned_none (P := Try.prog) w base 23 ty 51 i0 2 Try.underlying23 hi v n _ hown, by rw [List.append_nil, Nat.add_zero]; exact hown, World.grownBy.refl w _⟩
  | some ad =>
    have hcells : ∀ j u, (vcells vs)[j]? = some u → w.cell? (ad.add j) = some u := by
      cases vs with
      | nil => intro j u hj; simp [vcells] at hj
      | cons y ys =>
        obtain ⟨b, off, e, _⟩ := hr 0 y rfl
        injection e with e
        subst e
        exact hr.cells
    obtain ⟨v', w', h1, h2, h3, _⟩ := run_append_own (P := Try.prog) w base 23 ty 51 i0 _ 2 16 Try.underlying23 hi hz0 hz1 hz2 rfl (by decide) v n _ hown ad m c _ (by rw [vcells_length, hm]) hcells (vcells_one' vs) (by unfold maxLen; omega) (by omega) hbase
    exact ⟨v', w', h1, by rw [vcells_append]; exact h2, h3⟩
theorem wpList_append_rmail {w : World} {ops : Array Oper} {rest : List Oper} {o : Oper} {a : Act} {Q : Exit → Act → World → Prop} (hgd : o.guard = none) (s x : Operand)
    (ho : o.op = .call { callee := .builtin .append, args := #[s, x], argTypes := #[23, 23] })
    (base : Nat) (v : Value) (n : Nat) (xs : List (Int × Int)) (hs : a.eval s = v) (hown : w.ownsRow base 51 2 v n (vcells xs))
    (A : Option Addr) (m c : Nat) (vs : List (Int × Int)) (hx : a.eval x = .slice A m c) (h : PR w A m c vs) (hb : n + m ≤ 1000000) (hbase : base ≤ w.heap.size)
    (hK : ∀ v' w', w'.ownsRow base 51 2 v' (n + m) (vcells (xs ++ vs)) → w.grownBy w' v.ownBlock → wpList Try.prog ops Q rest (a.put o.dst v') w') : wpList Try.prog ops Q (o :: rest) a w := by
  obtain ⟨v', w', hr, h2, h3⟩ := run_append_rmail w o.type base v n xs hown A m c vs h hb hbase
  refine wpList_plain hgd fun K hK' => ?_
  unfold Oper.wp
  simp [execOp, ho, resolve, invoke, builtin, hs, hx, hr, Result.andThen]
  exact hK' _ _ (hK v' w' h2 h3)
theorem step_append_rmail {w : World} {ops : Array Oper} {o : Oper} {a : Act} {K : Act → World → Prop} {Q : Exit → Act → World → Prop} {E : Prop} (hgd : o.guard = none) (s x : Operand)
    (ho : o.op = .call { callee := .builtin .append, args := #[s, x], argTypes := #[23, 23] })
    (base : Nat) (v : Value) (n : Nat) (xs : List (Int × Int)) (hs : a.eval s = v) (hown : w.ownsRow base 51 2 v n (vcells xs))
    (A : Option Addr) (m c : Nat) (vs : List (Int × Int)) (hx : a.eval x = .slice A m c) (h : PR w A m c vs) (hb : n + m ≤ 1000000) (hbase : base ≤ w.heap.size)
    (hK : ∀ v' w', w'.ownsRow base 51 2 v' (n + m) (vcells (xs ++ vs)) → w.grownBy w' v.ownBlock → K (a.put o.dst v') w') :
    if Region.wanted o (yielded ops a.tmps) = true then Oper.wp Try.prog o a w K Q else E := by
  obtain ⟨v', w', hr, h2, h3⟩ := run_append_rmail w o.type base v n xs hown A m c vs h hb hbase
  have hw : Region.wanted o (yielded ops a.tmps) = true := by simp [Region.wanted, hgd]
  rw [if_pos hw]
  unfold Oper.wp
  simp [execOp, ho, resolve, invoke, builtin, hs, hx, hr, Result.andThen]
  exact hK v' w' h2 h3
theorem pr_at_rmail (w : World) (g n : Int) (Y : Nat) (hY : w.heap.size = Y) : PR (w.alloc (.cells #[.int .i64 g, .int .i64 n] 51)) (some ⟨Y, 0, none⟩) 1 1 [(g, n)] := by
  subst hY
  exact pr_of_two w g n 51
/-- Four cells of a block that may be written. -/
structure Q4 (W : World) (b : Nat) (x y z u : Value) : Prop where
  c0 : W.cell? ⟨b, 0, none⟩ = some x
  c1 : W.cell? ⟨b, 1, none⟩ = some y
  c2 : W.cell? ⟨b, 2, none⟩ = some z
  c3 : W.cell? ⟨b, 3, none⟩ = some u
  f0 : W.frozen? ⟨b, 0, none⟩ = false
  f1 : W.frozen? ⟨b, 1, none⟩ = false
  f2 : W.frozen? ⟨b, 2, none⟩ = false
  f3 : W.frozen? ⟨b, 3, none⟩ = false
theorem Q4.step {W W' : World} {b : Nat} {x y z u : Value} (h : Q4 W b x y z u) (hb : Below W.heap.size W W') : Q4 W' b x y z u :=
  ⟨keepcell hb h.c0, keepcell hb h.c1, keepcell hb h.c2, keepcell hb h.c3, keepfree hb h.c0 h.f0, keepfree hb h.c1 h.f1, keepfree hb h.c2 h.f2, keepfree hb h.c3 h.f3⟩
theorem Q4.drew {W : World} {b : Nat} {x y z u : Value} (h : Q4 W b x y z u) : Q4 W.drew b x y z u := ⟨h.c0, h.c1, h.c2, h.c3, h.f0, h.f1, h.f2, h.f3⟩
theorem Q4.drewN {W : World} {b : Nat} {x y z u : Value} (h : Q4 W b x y z u) (q : Nat) : Q4 (W.drewN q) b x y z u := ⟨h.c0, h.c1, h.c2, h.c3, h.f0, h.f1, h.f2, h.f3⟩
theorem Q4.alloc {W : World} {b : Nat} {x y z u : Value} (h : Q4 W b x y z u) (o : Obj) : Q4 (W.alloc o) b x y z u := h.step (below_new W o)
theorem Q4.lt {W : World} {b : Nat} {x y z u : Value} (h : Q4 W b x y z u) : b < W.heap.size := World.block_lt_of_cell? W ⟨b, 0, none⟩ h.c0
theorem Q4.new (w : World) (x y z u : Value) (T : TypeId) : Q4 (w.alloc (.cells #[x, y, z, u] T)) w.heap.size x y z u := by
  refine ⟨?_, ?_, ?_, ?_, ?_, ?_, ?_, ?_⟩ <;> first | (rw [World.cell?_alloc_at _ _ _ _ rfl]; rfl) | rw [World.frozen?_alloc_at _ _ _ _ rfl]
theorem Q4.grown {W W' : World} {b : Nat} {x y z u : Value} {row : Option Nat} (h : Q4 W b x y z u) (hg : W.grownBy W' row) (hr : ∀ k, row = some k → b ≠ k) : Q4 W' b x y z u := by
  have hb := h.lt
  have hc : ∀ o, W'.cell? ⟨b, o, none⟩ = W.cell? ⟨b, o, none⟩ := fun o => World.cell?_of_block (hg.block b hb (fun e => hr b e.symm rfl))
  have hf : ∀ o, W'.frozen? ⟨b, o, none⟩ = W.frozen? ⟨b, o, none⟩ := fun o => World.frozen?_of_block (hg.block b hb (fun e => hr b e.symm rfl))
  exact ⟨(hc _).trans h.c0, (hc _).trans h.c1, (hc _).trans h.c2, (hc _).trans h.c3, (hf _).trans h.f0, (hf _).trans h.f1, (hf _).trans h.f2, (hf _).trans h.f3⟩
theorem Q4.far {W : World} {b b' j : Nat} {x y z u v : Value} (h : Q4 W b x y z u) (hne : b ≠ b') : Q4 (W.setCell ⟨b', j, none⟩ v) b x y z u := by
  refine ⟨?_, ?_, ?_, ?_, by rw [World.frozen?_setCell]; exact h.f0, by rw [World.frozen?_setCell]; exact h.f1, by rw [World.frozen?_setCell]; exact h.f2, by rw [World.frozen?_setCell]; exact h.f3⟩ <;>
    rw [World.cell?_setCell_other _ _ _ _ (fun e => by injection e with e; omega)]
  · exact h.c0
  · exact h.c1
  · exact h.c2
  · exact h.c3
theorem Q4.set1 {W : World} {b : Nat} {x y z u : Value} (h : Q4 W b x y z u) (v : Value) : Q4 (W.setCell ⟨b, 1, none⟩ v) b x v z u := by
  refine ⟨?_, ?_, ?_, ?_, by rw [World.frozen?_setCell]; exact h.f0, by rw [World.frozen?_setCell]; exact h.f1, by rw [World.frozen?_setCell]; exact h.f2, by rw [World.frozen?_setCell]; exact h.f3⟩
  · rw [World.cell?_setCell_other _ _ _ _ (fun e => by injection e with _ e; omega)]; exact h.c0
  · exact World.cell?_setCell_same' _ _ _ (by rw [h.c1]; rfl)
  · rw [World.cell?_setCell_other _ _ _ _ (fun e => by injection e with _ e; omega)]; exact h.c2
  · rw [World.cell?_setCell_other _ _ _ _ (fun e => by injection e with _ e; omega)]; exact h.c3
theorem Q4.set2 {W : World} {b : Nat} {x y z u : Value} (h : Q4 W b x y z u) (v : Value) : Q4 (W.setCell ⟨b, 2, none⟩ v) b x y v u := by
  refine ⟨?_, ?_, ?_, ?_, by rw [World.frozen?_setCell]; exact h.f0, by rw [World.frozen?_setCell]; exact h.f1, by rw [World.frozen?_setCell]; exact h.f2, by rw [World.frozen?_setCell]; exact h.f3⟩
  · rw [World.cell?_setCell_other _ _ _ _ (fun e => by injection e with _ e; omega)]; exact h.c0
  · rw [World.cell?_setCell_other _ _ _ _ (fun e => by injection e with _ e; omega)]; exact h.c1
  · exact World.cell?_setCell_same' _ _ _ (by rw [h.c2]; rfl)
  · rw [World.cell?_setCell_other _ _ _ _ (fun e => by injection e with _ e; omega)]; exact h.c3
theorem Q4.set3 {W : World} {b : Nat} {x y z u : Value} (h : Q4 W b x y z u) (v : Value) : Q4 (W.setCell ⟨b, 3, none⟩ v) b x y z v := by
  refine ⟨?_, ?_, ?_, ?_, by rw [World.frozen?_setCell]; exact h.f0, by rw [World.frozen?_setCell]; exact h.f1, by rw [World.frozen?_setCell]; exact h.f2, by rw [World.frozen?_setCell]; exact h.f3⟩
  · rw [World.cell?_setCell_other _ _ _ _ (fun e => by injection e with _ e; omega)]; exact h.c0
  · rw [World.cell?_setCell_other _ _ _ _ (fun e => by injection e with _ e; omega)]; exact h.c1
  · rw [World.cell?_setCell_other _ _ _ _ (fun e => by injection e with _ e; omega)]; exact h.c2
  · exact World.cell?_setCell_same' _ _ _ (by rw [h.c3]; rfl)
theorem Q4.set0 {W : World} {b : Nat} {x y z u : Value} (h : Q4 W b x y z u) (v : Value) : Q4 (W.setCell ⟨b, 0, none⟩ v) b v y z u := by
  refine ⟨?_, ?_, ?_, ?_, by rw [World.frozen?_setCell]; exact h.f0, by rw [World.frozen?_setCell]; exact h.f1, by rw [World.frozen?_setCell]; exact h.f2, by rw [World.frozen?_setCell]; exact h.f3⟩
  · exact World.cell?_setCell_same' _ _ _ (by rw [h.c0]; rfl)
  · rw [World.cell?_setCell_other _ _ _ _ (fun e => by injection e with _ e; omega)]; exact h.c1
  · rw [World.cell?_setCell_other _ _ _ _ (fun e => by injection e with _ e; omega)]; exact h.c2
  · rw [World.cell?_setCell_other _ _ _ _ (fun e => by injection e with _ e; omega)]; exact h.c3
/-- All four written anew. -/
theorem Q4.put {W : World} {b : Nat} {x y z u : Value} (h : Q4 W b x y z u) (x' y' z' u' : Value) : Q4 ((((W.setCell ⟨b, 0, none⟩ x').setCell ⟨b, 1, none⟩ y').setCell ⟨b, 2, none⟩ z').setCell ⟨b, 3, none⟩ u') b x' y' z' u' :=
  (((h.set0 x').set1 y').set2 z').set3 u'
theorem put4_below {B : Nat} {w W : World} {b : Nat} {x y z u : Value} (h : Below B w W) (hb : B ≤ b) : Below B w ((((W.setCell ⟨b, 0, none⟩ x).setCell ⟨b, 1, none⟩ y).setCell ⟨b, 2, none⟩ z).setCell ⟨b, 3, none⟩ u) := (((h.setCell hb x).setCell hb y).setCell hb z).setCell hb u
end Go.Proofs.Ytjpnfjiccckaiaa

