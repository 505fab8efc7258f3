/- Runs that are apart, in which another row is cut: who is pushed to stays ready. An append of nobody. -/
import Derived.Test.YthbeldmgaioemaaDoorM11
namespace Go.Proofs.YthbeldmgaioemaaDoor
open Go.RowKit
set_option linter.unusedVariables false

/-- Another row cut, its room too. -/
theorem Ready.other {B0 q p g nt ct nr cr ns cs : Nat} {T R : Option Addr} {r : Jp.Rn} {es ls : List El} {e0 e1 : El} {W : World} (h : Ready B0 q ⟨T, nt, ct, R, nr, cr, some ⟨g, 0, none⟩, ns, cs⟩ r es ls e0 W) (hpq : p ≠ q) (hp : ls[p]? = some e1) {l : List Int} {A : Option Addr} {n c : Nat}
    (hr : Row W A n c l) (hA : ∀ ad, A = some ad → ∃ ad1, e1.A = some ad1 ∧ ad.block = ad1.block) (hl : l ≠ [] → e1.l ≠ []) (hg : ∀ ad, A = some ad → ad.block ≠ g) :
    Ready B0 q ⟨T, nt, ct, R, nr, cr, some ⟨g, 0, none⟩, ns, cs⟩ (Jp.rowed r p l) es (ls.set p ⟨e1.x, l, A, n, c⟩) e0 (W.setCell ⟨g, p, none⟩ (.slice A n c)) := by
  have hln : ls.length = ns := h.rows.len csL_len (by decide)
  have hpn : p < ns := by rw [← hln]; exact (List.getElem?_eq_some_iff.1 hp).1
  have hgo := grown_one W g p (.slice A n c)
  have hAl : ∀ ad, A = some ad → B0 ≤ ad.block := fun ad hAa => by
    obtain ⟨ad1, h1, h2⟩ := hA ad hAa
    have := h.lie e1 (List.mem_of_getElem? hp) ad1 h1
    omega
  exact {
    tlen := h.tlen, tmax := h.tmax, fit := h.fit, on := h.on, size := h.size
    tree := vrow_grown h.tree hgo (h.s1 g rfl)
    treeF := h.treeF
    own := xo_kept h.own hgo (fun e => h.r2 _ e rfl) (h.s2 g rfl)
    is := h.is
    mine := h.mine
    rows := h.rows.set1 p ⟨e1.x, l, A, n, c⟩ hpn hr (fun _ ad hAa e2 => by simp only [Value.ownBlock, Option.some.injEq] at e2; exact hg ad hAa e2.symm)
    isl := by rw [map_set_elL, h.isl]; rfl
    lie := fun e he => by
      rcases List.mem_or_eq_of_mem_set he with h' | rfl
      · exact h.lie e h'
      · exact hAl
    at' := by rw [List.getElem?_set_ne hpq]; exact h.at'
    ours := h.ours.kept hgo (by
      cases hob : (Value.slice e0.A e0.n e0.c).ownBlock with
      | none => exact .inl rfl
      | some k => exact .inr (fun e => by injection e with e; exact h.t4 k hob (by rw [e]; rfl)))
    t1 := h.t1
    t2 := h.t2
    t3 := h.t3
    t4 := h.t4
    t5 := fun j f hj hf => by
      rw [List.getElem?_set] at hf
      by_cases hpj : p = j
      · subst hpj
        rw [if_pos rfl, if_pos (by omega)] at hf
        injection hf with hf
        subst hf
        intro hne ad hAa e2
        obtain ⟨ad1, h1, h2⟩ := hA ad hAa
        exact h.t5 p e1 hj hp (hl hne) ad1 h1 (by rw [e2, h2])
      · rw [if_neg hpj] at hf
        exact h.t5 j f hj hf
    r1 := h.r1
    r2 := h.r2
    r3 := fun k hk e he hne ad hAa => by
      rcases List.mem_or_eq_of_mem_set he with h' | rfl
      · exact h.r3 k hk e h' hne ad hAa
      · obtain ⟨ad1, h1, h2⟩ := hA ad hAa
        have := h.r3 k hk e1 (List.mem_of_getElem? hp) (hl hne) ad1 h1
        omega
    s1 := h.s1
    s2 := h.s2
    up := Nat.le_trans h.up hgo.size }
/-- An append of nobody, to any row. -/
theorem run_append_nobody (w : World) (ty : TypeId) (A : Option Addr) (n c : Nat) (zs : List Int) (h : Row w A n c zs) (A2 : Option Addr) (c2 : Nat) :
    (Builtin.append_ #[44, 44] ty #[.slice A n c, .slice A2 0 c2]).run Tryd.prog w = .ok (.slice A n c) w := by
  obtain ⟨i0, hi, hz0, hz1, hz2⟩ := info_parts info_int
  have h1 := h.cap
  cases A with
  | none =>
    have := h.nil rfl
    subst this
    obtain rfl : n = 0 := by omega
    cases A2 <;> simp [Builtin.append_, run_underlying Tryd.underlying44, sizeOf, typeInfo, hi, Builtin.lenOf, Builtin.firstCells, loadCells, loadCellsFrom]
  | some ad =>
    cases A2 <;> simp [Builtin.append_, run_underlying Tryd.underlying44, sizeOf, typeInfo, hi, Builtin.lenOf, Builtin.firstCells, h1, loadCells, loadCellsFrom, storeCells]
theorem step_append_nobody {w : World} {ops : Array Oper} {o : Oper} {a : Act} {K : Act → World → Prop} {Q : Exit → Act → World → Prop} {E : Prop} (hgd : o.guard = none) (s x : Operand)
    (ho : o.op = .call { callee := .builtin .append, args := #[s, x], argTypes := #[44, 44] })
    (A : Option Addr) (n c : Nat) (zs : List Int) (hs : a.eval s = .slice A n c) (h : Row w A n c zs)
    (A2 : Option Addr) (m c2 : Nat) (hm : m = 0) (hx : a.eval x = .slice A2 m c2)
    (hK : K (a.put o.dst (.slice A n c)) w) :
    if Region.wanted o (yielded ops a.tmps) = true then Oper.wp Tryd.prog o a w K Q else E := by
  subst hm
  have hr := run_append_nobody w o.type A n c zs h A2 c2
  have hw : Region.wanted o (yielded ops a.tmps) = true := by simp [Region.wanted, hgd]
  rw [if_pos hw]
  unfold Oper.wp
  simp [execOp, ho, resolve, invoke, builtin, hs, hx, hr, Result.andThen]
  exact hK
/-- A row cut with three indexes. -/
theorem Row.cut3 {w : World} {A : Option Addr} {n c : Nat} {zs : List Int} (h : Row w A n c zs) (k : Nat) (hk : k ≤ n) : Row w A k k (zs.take k) := by
  have h1 := h.take k hk
  have h2 := h.cap
  have h3 := h.most
  exact ⟨h1.len, Nat.le_refl _, by omega, fun e => by have := h.nil e; omega, h1.row⟩
theorem Row.rest {w : World} {A : Option Addr} {n c : Nat} {zs : List Int} (h : Row w A n c zs) (k : Nat) (hk : k ≤ n) (hA : A = none ∨ c = k) : Row w A (n - k) (c - k) (zs.drop k) := by
  have h1 := h.cap
  have h3 := h.most
  have h4 : n - k = 0 := by
    rcases hA with e | e
    · have := h.nil e; omega
    · omega
  rw [h4, List.drop_of_length_le (by rw [h.len]; omega)]
  exact ⟨rfl, Nat.zero_le _, by omega, fun e => by have := h.nil e; omega, fun i z hi => by simp at hi⟩
theorem Jp.rowed_self {r : Jp.Rn} {n : Nat} {l : List Int} (h : r.rows[n]? = some l) : Jp.rowed r n l = r := by
  have : r.rows.set n l = r.rows := by
    apply List.ext_getElem?
    intro j
    rw [List.getElem?_set]
    split
    · rename_i e
      subst e
      split
      · exact h.symm
      · rename_i h2; exact absurd (List.getElem?_eq_some_iff.1 h).1 h2
    · rfl
  unfold Jp.rowed
  rw [this]
/-- A row's cell, where the rows lie. -/
theorem xo_cellL {ty : TypeId} {W : World} {base g n cap : Nat} {es : List El} (h : XO csL 1 ty base W (.slice (some ⟨g, 0, none⟩) n cap) n es) {i : Nat} {e : El} (hi : es[i]? = some e) : W.cell? ⟨g, i, none⟩ = some (.slice e.A e.n e.c) ∧ W.frozen? ⟨g, i, none⟩ = false := by
  have hl : es.length = n := h.len csL_len (by decide)
  have hin : i < n := by rw [← hl]; exact (List.getElem?_eq_some_iff.1 hi).1
  have p4 := h.own.cellAt i (show i < n * 1 by omega)
  have p5 := flat_at csL_len es i e 0 hi (by decide)
  rw [Nat.mul_one, Nat.add_zero] at p5
  rw [p5] at p4
  exact ⟨p4, h.own.frozenAt i⟩
/-- A slice cut, its head and its rest, whether there is memory or none. -/
theorem cut_head {w : World} {A : Option Addr} {n c : Nat} {zs : List Int} (h : Row w A n c zs) (k : Nat) (hk : k ≤ n) {g : Nat} (hA : ∀ ad, A = some ad → ad = ⟨ad.block, 0, none⟩ ∧ ad.block ≠ g) :
    ∀ W, (Instr.sliceAt 44 (.slice A n c) none (some (.int .i64 (k : Nat))) (some (.int .i64 (k : Nat)))).run Tryd.prog W = .ok (.slice A k k) W := by
  obtain ⟨i0, hi, hz0, hz1, hz2⟩ := info_parts info_int
  have h1 := h.cap
  intro W
  have f1 : k ≤ c := by omega
  cases A with
  | none => simp [Instr.sliceAt, Instr.slice, Instr.sliceBounds, Instr.sliceBound, run_underlying Tryd.underlying44, asIntOf, sizeOf, typeInfo, hi, f1]
  | some ad => simp [Instr.sliceAt, Instr.slice, Instr.sliceBounds, Instr.sliceBound, run_underlying Tryd.underlying44, asIntOf, sizeOf, typeInfo, hi, f1, Addr.add]
theorem cut_rest {w : World} {A : Option Addr} {n c : Nat} {zs : List Int} (h : Row w A n c zs) (k : Nat) (hk : k ≤ n) (g : Nat) (hA : ∀ ad, A = some ad → ad = ⟨ad.block, 0, none⟩ ∧ ad.block ≠ g) :
    ∃ A2, (∀ W, (Instr.sliceAt 44 (.slice A n c) (some (.int .i64 (k : Nat))) none none).run Tryd.prog W = .ok (.slice A2 (n - k) (c - k)) W) ∧ Row w A2 (n - k) (c - k) (zs.drop k) ∧ (∀ ad, A2 = some ad → ad.block ≠ g) := by
  obtain ⟨i0, hi, hz0, hz1, hz2⟩ := info_parts info_int
  cases A with
  | none =>
    refine ⟨none, fun W => ?_, h.rest k hk (.inl rfl), fun ad e => by cases e⟩
    simp [Instr.sliceAt, Instr.slice, Instr.sliceBounds, Instr.sliceBound, run_underlying Tryd.underlying44, asIntOf, sizeOf, typeInfo, hi, hk]
  | some ad =>
    obtain ⟨h1, h2⟩ := hA ad rfl
    obtain ⟨b, off, spot⟩ := ad
    simp only [Addr.mk.injEq, true_and] at h1
    obtain ⟨rfl, rfl⟩ := h1
    by_cases f5 : c = k
    · refine ⟨some ⟨b, 0, none⟩, fun W => ?_, h.rest k hk (.inr f5), fun ad e => by injection e with e; subst e; exact h2⟩
      simp [Instr.sliceAt, Instr.slice, Instr.sliceBounds, Instr.sliceBound, run_underlying Tryd.underlying44, asIntOf, sizeOf, typeInfo, hi, hk, f5]
    · have hsl := h.slice k hk
      rw [if_neg f5, Nat.zero_add] at hsl
      refine ⟨some ⟨b, k, none⟩, fun W => ?_, hsl, fun ad e => by injection e with e; subst e; exact h2⟩
      simp [Instr.sliceAt, Instr.slice, Instr.sliceBounds, Instr.sliceBound, run_underlying Tryd.underlying44, asIntOf, sizeOf, typeInfo, hi, hz1, hk, f5, Addr.add]
      try omega
/-- What is left where all stands in one row alone: stored twice. -/
theorem set_twice (W : World) (g i : Nat) (u v : Value) : ((W.setCell ⟨g, i, none⟩ u).drew).setCell ⟨g, i, none⟩ v = W.drew.setCell ⟨g, i, none⟩ v := by
  rw [show (W.setCell ⟨g, i, none⟩ u).drew = W.drew.setCell ⟨g, i, none⟩ u from rfl]
  unfold World.setCell
  congr 1
  apply Array.ext_getElem?
  intro j
  simp only [Array.getElem?_modify]
  split
  · cases W.drew.heap[j]? with
    | none => rfl
    | some b => cases b <;> simp
  · rfl
end Go.Proofs.YthbeldmgaioemaaDoor

