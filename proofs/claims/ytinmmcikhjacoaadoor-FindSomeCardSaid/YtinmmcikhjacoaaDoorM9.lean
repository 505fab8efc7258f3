/- Contracts and plain mathematics, put together by program (wip/merge.py) out of: JReady YCut YLoop YOf YLook. -/
import Derived.Test.YtinmmcikhjacoaaDoorJApartW
import Derived.Maps.AppendAt
import Derived.Test.YtinmmcikhjacoaaDoorM6
import Derived.Test.YtinmmcikhjacoaaDoorM4
import Derived.Test.YtinmmcikhjacoaaDoorM1
import Derived.Test.YtinmmcikhjacoaaDoorJRefMay
import Derived.Test.YtinmmcikhjacoaaDoorM3
/- A row of Runs that are told, made longer: an append, and what else stands. -/
namespace Go.Proofs.YtinmmcikhjacoaaDoor
open Go.RowKit
set_option linter.unusedVariables false

theorem run_append_rowat (w : World) (ty : TypeId) (base : Nat) (v : Value) (n : Nat) (xs : List Int) (hown : w.ownsRow base 3 1 v n (xs.map (Value.int .i64)))
    (A : Option Addr) (m c : Nat) (zs : List Int) (h : Row w A m c zs) (hb : n + m ≤ 1000000) (hbase : base ≤ w.heap.size) :
    ∃ v' w', (Builtin.append_ #[45, 45] ty #[v, .slice A m c]).run Tryd.prog w = .ok v' w' ∧ w'.ownsRow base 3 1 v' (n + m) ((xs ++ zs).map (Value.int .i64)) ∧ w.grownBy w' v.ownBlock ∧ (v'.ownBlock = v.ownBlock ∨ v'.ownBlock = some w.heap.size) := by
  obtain ⟨i0, hi, hz0, hz1, hz2⟩ := info_parts info_int
  have hl := h.len
  cases A with
  | none =>
    have hc := h.nil rfl
    have h2 := h.cap
    subst hc
    have hm : m = 0 := by omega
    subst hm
    have hv : zs = [] := List.length_eq_zero_iff.1 hl
    subst hv
    exact ⟨v, w, run_append_owned_none (P := Tryd.prog) w base 45 ty 3 i0 1 Tryd.underlying45 hi v n _ hown, by rw [List.append_nil, Nat.add_zero]; exact hown, World.grownBy.refl w _, .inl rfl⟩
  | some ad =>
    have hcells : ∀ j u, (zs.map (Value.int .i64))[j]? = some u → w.cell? (ad.add j) = some u := by
      cases zs with
      | nil => intro j u hj; simp at hj
      | cons y ys =>
        obtain ⟨b, off, e, _⟩ := h.row 0 y rfl
        injection e with e
        subst e
        exact h.icells
    obtain ⟨v', w', h1, h2, h3, _, h5⟩ := run_append_own_at (P := Tryd.prog) w base 45 ty 3 i0 _ 1 8 Tryd.underlying45 hi hz0 hz1 hz2 rfl (by decide) v n _ hown ad m c _ (by rw [List.length_map, hl]; omega) hcells (icells_one zs) (by unfold maxLen; omega) (by omega) hbase
    exact ⟨v', w', h1, by rw [List.map_append]; exact h2, h3, h5⟩
theorem step_append_rowat {w : World} {ops : Array Oper} {o : Oper} {a : Act} {K : Act → World → Prop} {Q : Exit → Act → World → Prop} {E : Prop} (hgd : o.guard = none) (s x : Operand)
    (ho : o.op = .call { callee := .builtin .append, args := #[s, x], argTypes := #[45, 45] })
    (base : Nat) (v : Value) (n : Nat) (xs : List Int) (hs : a.eval s = v) (hown : w.ownsRow base 3 1 v n (xs.map (Value.int .i64)))
    (A : Option Addr) (m c : Nat) (zs : List Int) (hx : a.eval x = .slice A m c) (h : Row w A m c zs) (hb : n + m ≤ 1000000) (hbase : base ≤ w.heap.size)
    (hK : ∀ v' w', w'.ownsRow base 3 1 v' (n + m) ((xs ++ zs).map (Value.int .i64)) → w.grownBy w' v.ownBlock → (v'.ownBlock = v.ownBlock ∨ v'.ownBlock = some w.heap.size) → K (a.put o.dst v') w') :
    if Region.wanted o (yielded ops a.tmps) = true then Oper.wp Tryd.prog o a w K Q else E := by
  obtain ⟨v', w', hr, h2, h3, h4⟩ := run_append_rowat w o.type base v n xs hown A m c zs h hb hbase
  have hw : Region.wanted o (yielded ops a.tmps) = true := by simp [Region.wanted, hgd]
  rw [if_pos hw]
  unfold Oper.wp
  simp [execOp, ho, resolve, invoke, builtin, hs, hx, hr, Result.andThen]
  exact hK v' w' h2 h3 h4
/-- Runs in memory whose row q is the call's own, apart from all else. -/
structure Ready (B0 q : Nat) (d : Ad) (r : Jp.Rn) (es ls : List El) (e0 : El) (W : World) : Prop where
  tlen : r.tree.length = d.nt
  tmax : d.nt ≤ 9223372036854775807
  fit : Fit r.tree
  on : r.on < 18446744073709551616
  size : In64 r.size
  tree : VRow W W.heap.size d.T r.tree
  treeF : From B0 d.T
  own : XO csG 2 48 B0 W (.slice d.R d.nr d.cr) d.nr es
  is : es.map elG = r.rings
  mine : ∀ e ∈ es, From B0 e.A
  rows : XO csL 1 45 B0 W (.slice d.S d.ns d.cs) d.ns ls
  isl : ls.map elL = r.rows
  lie : ∀ e ∈ ls, From B0 e.A
  at' : ls[q]? = some e0
  ours : W.ownsRow B0 3 1 (.slice e0.A e0.n e0.c) e0.n (e0.l.map (Value.int .i64))
  t1 : ∀ g, (Value.slice e0.A e0.n e0.c).ownBlock = some g → ∀ ad, d.T = some ad → ad.block ≠ g
  t2 : ∀ g, (Value.slice e0.A e0.n e0.c).ownBlock = some g → (Value.slice d.R d.nr d.cr).ownBlock ≠ some g
  t3 : ∀ g, (Value.slice e0.A e0.n e0.c).ownBlock = some g → ∀ e ∈ es, e.l ≠ [] → ∀ ad, e.A = some ad → ad.block ≠ g
  t4 : ∀ g, (Value.slice e0.A e0.n e0.c).ownBlock = some g → (Value.slice d.S d.ns d.cs).ownBlock ≠ some g
  t5 : ∀ (j : Nat) (f : El), j ≠ q → ls[j]? = some f → Apart (.slice e0.A e0.n e0.c) f
  r1 : ∀ g, (Value.slice d.R d.nr d.cr).ownBlock = some g → ∀ ad, d.T = some ad → ad.block ≠ g
  r2 : ∀ g, (Value.slice d.R d.nr d.cr).ownBlock = some g → (Value.slice d.S d.ns d.cs).ownBlock ≠ some g
  r3 : ∀ g, (Value.slice d.R d.nr d.cr).ownBlock = some g → ∀ e ∈ ls, e.l ≠ [] → ∀ ad, e.A = some ad → ad.block ≠ g
  s1 : ∀ g, (Value.slice d.S d.ns d.cs).ownBlock = some g → ∀ ad, d.T = some ad → ad.block ≠ g
  s2 : ∀ g, (Value.slice d.S d.ns d.cs).ownBlock = some g → ∀ e ∈ es, e.l ≠ [] → ∀ ad, e.A = some ad → ad.block ≠ g
  up : B0 ≤ W.heap.size
theorem xo_base {cs : El → List Value} {sz : Nat} {ty : TypeId} {b1 b2 n : Nat} {w : World} {v : Value} {es : List El} (h : XO cs sz ty b1 w v n es) (hb : b2 ≤ b1) : XO cs sz ty b2 w v n es := ⟨zown_base' h.own hb, h.rows, h.apart⟩
/-- A tree's block lies below B1. -/
theorem tree_lt {W : World} {B : Nat} {A : Option Addr} {vs : List (Int × Int)} (h : VRow W B A vs) (hne : vs ≠ []) : ∀ ad, A = some ad → ad.block < B := by
  intro ad hA
  obtain ⟨x0, hx0⟩ : ∃ x, vs[0]? = some x := ⟨_, List.getElem?_eq_getElem (List.length_pos_iff.2 hne)⟩
  obtain ⟨b, off, e5, hb, _⟩ := h 0 x0 hx0
  rw [hA] at e5
  injection e5 with e5
  subst e5
  exact hb
theorem Told.ready {B0 B1 B2 B3 : Nat} {d : Ad} {r : Jp.Rn} {es ls : List El} {W : World} (h : Told B0 B1 B2 B3 d r es ls W) (hne : r.tree ≠ []) {q : Nat} {e0 : El} (hq : ls[q]? = some e0) : Ready B0 q d r es ls e0 W := by
  have h01 := h.o01
  have h12 := h.o12
  have h23 := h.o23
  have hup := h.up
  have hT := tree_lt h.tree hne
  have rf : ∀ (i : Nat) e, ls[i]? = some e → From B3 e.A := fun i e hi => by
    obtain ⟨_, _, e1, _, h3⟩ := Row.of_own' (h.ours i e hi)
    injection e1 with e1
    subst e1
    exact h3
  have rf' : ∀ e ∈ ls, From B3 e.A := fun e he => by obtain ⟨i, hi⟩ := List.mem_iff_getElem?.1 he; exact rf i e hi
  have hg0 : ∀ g, (Value.slice e0.A e0.n e0.c).ownBlock = some g → B3 ≤ g := fun g hg => ((h.ours q e0 hq).lt g hg).1
  exact {
    tlen := h.tlen, tmax := h.tmax, fit := h.fit, on := h.on, size := h.size
    tree := h.tree.more (by omega)
    treeF := h.treeF
    own := xo_base h.own h01
    is := h.is
    mine := fun e he => (h.mine e he).mono h01
    rows := xo_base h.rows (by omega)
    isl := h.isl
    lie := fun e he => (rf' e he).mono (by omega)
    at' := hq
    ours := zown_base' (h.ours q e0 hq) (by omega)
    t1 := fun g hg ad hA => by have := hg0 g hg; have := hT ad hA; omega
    t2 := fun g hg e => by have := hg0 g hg; have := h.gl g e; omega
    t3 := fun g hg e he hne ad hA => by have := hg0 g hg; have := h.gr e he hne ad hA; omega
    t4 := fun g hg e => by have := hg0 g hg; have := h.ll g e; omega
    t5 := fun j f hj hf => h.far q j e0 f (fun e => hj e.symm) hq hf
    r1 := fun g hg ad hA => by have := (h.own.own.lt g hg).1; have := hT ad hA; omega
    r2 := fun g hg e => by have := h.gl g hg; have := (h.rows.own.lt g e).1; omega
    r3 := fun g hg e he hne ad hA => by have := h.gl g hg; have := rf' e he ad hA; omega
    s1 := fun g hg ad hA => by have := (h.rows.own.lt g hg).1; have := hT ad hA; omega
    s2 := fun g hg e he hne ad hA => by have := (h.rows.own.lt g hg).1; have := h.gr e he hne ad hA; omega
    up := by omega }
theorem Ready.step {B0 q : Nat} {d : Ad} {r : Jp.Rn} {es ls : List El} {e0 : El} {W W' : World} (h : Ready B0 q d r es ls e0 W) (hb : Below W.heap.size W W') : Ready B0 q d r es ls e0 W' :=
  { h with
    tree := (h.tree.below hb).more hb.size
    own := h.own.step hb
    rows := h.rows.step hb
    ours := own_below h.ours hb
    up := Nat.le_trans h.up hb.size }
theorem vrow_set {W : World} {X j : Nat} {A : Option Addr} {vs : List (Int × Int)} {u : Value} (h : VRow W W.heap.size A vs) (ha : ∀ ad, A = some ad → ad.block ≠ X) : VRow (W.setCell ⟨X, j, none⟩ u) (W.setCell ⟨X, j, none⟩ u).heap.size A vs := vrow_farj h (fun _ => ha)
theorem xo_kept {cs : El → List Value} {sz : Nat} {ty : TypeId} {base n g : Nat} {W W' : World} {v : Value} {es : List El} (h : XO cs sz ty base W v n es) (hg : W.grownBy W' (some g)) (hv : v.ownBlock ≠ some g) (hr : ∀ e ∈ es, e.l ≠ [] → ∀ ad, e.A = some ad → ad.block ≠ g) : XO cs sz ty base W' v n es :=
  ⟨h.own.kept hg (.inr hv), fun e he => row_kept (h.rows e he) hg (fun hne ad hA e2 => by injection e2 with e2; exact hr e he hne ad hA e2.symm), h.apart⟩
theorem map_set_elG (es : List El) (p : Nat) (e : El) : (es.set p e).map elG = (es.map elG).set p (elG e) := List.map_set
theorem map_set_elL (es : List El) (p : Nat) (e : El) : (es.set p e).map elL = (es.map elL).set p (elL e) := List.map_set
theorem vrow_grown {W W' : World} {g : Nat} {A : Option Addr} {vs : List (Int × Int)} (h : VRow W W.heap.size A vs) (hg : W.grownBy W' (some g)) (ha : ∀ ad, A = some ad → ad.block ≠ g) : VRow W' W'.heap.size A vs := by
  intro i z hi
  obtain ⟨b, off, e, hb, hc, hd⟩ := h i z hi
  have hne := ha _ e
  simp only at hne
  exact ⟨b, off, e, Nat.lt_of_lt_of_le hb hg.size, hg.cell hc (fun e => by injection e with e; exact hne e), hg.cell hd (fun e => by injection e with e; exact hne e)⟩
/-- A ring turned. -/
theorem Ready.ring {B0 B q p g nt ct nr cr ns cs : Nat} {T S : Option Addr} {r : Jp.Rn} {es ls : List El} {e0 : El} {W : World} (h : Ready B0 q ⟨T, nt, ct, some ⟨g, 0, none⟩, nr, cr, S, ns, cs⟩ r es ls e0 W) (hp : p < nr) {x : Int × List Int} {A : Option Addr} {n c : Nat}
    (hr : Row W A n c x.2) (hf : From B A) (hB0 : B0 ≤ B) (hg : g < B) (he : ∀ k, (Value.slice e0.A e0.n e0.c).ownBlock = some k → k < B) (hs : ∀ k, (Value.slice S ns cs).ownBlock = some k → k < B) :
    Ready B0 q ⟨T, nt, ct, some ⟨g, 0, none⟩, nr, cr, S, ns, cs⟩ (Jp.ringed r p x) (es.set p ⟨x.1, x.2, A, n, c⟩) ls e0 ((W.setCell ⟨g, p * 2, none⟩ (.int .i64 x.1)).setCell ⟨g, p * 2 + 1, none⟩ (.slice A n c)) := by
  have hgr := (grown_one W g (p * 2) (.int .i64 x.1)).trans (grown_one _ g (p * 2 + 1) (.slice A n c))
  have hgB := (h.own.own.lt g rfl).1
  exact {
    tlen := h.tlen, tmax := h.tmax, fit := h.fit, on := h.on, size := h.size
    tree := vrow_grown h.tree hgr (h.r1 g rfl)
    treeF := h.treeF
    own := h.own.set2 p ⟨x.1, x.2, A, n, c⟩ hp hr (fun _ ad hA e2 => by have := hf ad hA; simp only [Value.ownBlock, Option.some.injEq] at e2; omega)
    is := by rw [map_set_elG, h.is]; rfl
    mine := fun e he' => by
      rcases List.mem_or_eq_of_mem_set he' with h' | rfl
      · exact h.mine e h'
      · exact hf.mono hB0
    rows := xo_kept h.rows hgr (h.r2 g rfl) (h.r3 g rfl)
    isl := h.isl
    lie := h.lie
    at' := h.at'
    ours := h.ours.kept hgr (by
      cases hob : (Value.slice e0.A e0.n e0.c).ownBlock with
      | none => exact .inl rfl
      | some k => exact .inr (fun e => by injection e with e; exact h.t2 k hob (by rw [e]; rfl)))
    t1 := h.t1
    t2 := h.t2
    t3 := fun k hk e he' hne ad hA => by
      rcases List.mem_or_eq_of_mem_set he' with h' | rfl
      · exact h.t3 k hk e h' hne ad hA
      · have := hf ad hA; have := he k hk; omega
    t4 := h.t4
    t5 := h.t5
    r1 := h.r1
    r2 := h.r2
    r3 := h.r3
    s1 := h.s1
    s2 := fun k hk e he' hne ad hA => by
      rcases List.mem_or_eq_of_mem_set he' with h' | rfl
      · exact h.s2 k hk e h' hne ad hA
      · have := hf ad hA; have := hs k hk; omega
    up := Nat.le_trans h.up hgr.size }
/-- The row made longer, and told in its place. -/
theorem Ready.push {F : Nat → Prop} {B0 q g nt ct nr cr ns cs : Nat} {T R : Option Addr} {r : Jp.Rn} {es ls : List El} {e0 : El} {w0 W W' : World} (h : Ready B0 q ⟨T, nt, ct, R, nr, cr, some ⟨g, 0, none⟩, ns, cs⟩ r es ls e0 W) (h0 : w0.heap.size ≤ B0) {l : List Int} {A : Option Addr} {n c : Nat}
    (ho : W'.ownsRow B0 3 1 (.slice A n c) n ((e0.l ++ l).map (Value.int .i64))) (hgr : W.grownBy W' (Value.slice e0.A e0.n e0.c).ownBlock) (hat : (Value.slice A n c).ownBlock = (Value.slice e0.A e0.n e0.c).ownBlock ∨ (Value.slice A n c).ownBlock = some W.heap.size) :
    RM (More F w0) (W'.setCell ⟨g, q, none⟩ (.slice A n c)) ⟨T, nt, ct, R, nr, cr, some ⟨g, 0, none⟩, ns, cs⟩ (Jp.rowed r q (e0.l ++ l)) := by
  have hq := h.at'
  have hln : ls.length = ns := h.rows.len csL_len (by decide)
  have hqn : q < ns := by rw [← hln]; exact (List.getElem?_eq_some_iff.1 hq).1
  have hgl := h.rows.own.lt g rfl
  obtain ⟨A5, c5, e5, hrow, hfr⟩ := Row.of_own' ho
  injection e5 with e51 _ e52
  subst e51 e52
  -- behind the append
  have ne : ∀ {v : Value}, (∀ k, (Value.slice e0.A e0.n e0.c).ownBlock = some k → v.ownBlock ≠ some k) → v.ownBlock = none ∨ v.ownBlock ≠ (Value.slice e0.A e0.n e0.c).ownBlock := fun {v} hv => by
    cases hob : (Value.slice e0.A e0.n e0.c).ownBlock with
    | none =>
      cases hv' : v.ownBlock with
      | none => exact .inl rfl
      | some b => exact .inr (by simp)
    | some k => exact .inr (hv k hob)
  have rn : ∀ {e : El}, (∀ k, (Value.slice e0.A e0.n e0.c).ownBlock = some k → e.l ≠ [] → ∀ ad, e.A = some ad → ad.block ≠ k) → e.l ≠ [] → ∀ ad, e.A = some ad → (Value.slice e0.A e0.n e0.c).ownBlock ≠ some ad.block := fun {e} hv hne ad hA hk => hv _ hk hne ad hA rfl
  have hG : XO csG 2 48 B0 W' (.slice R nr cr) nr es := ⟨h.own.own.kept hgr (ne h.t2), fun e he => row_kept (h.own.rows e he) hgr (rn (fun k hk => h.t3 k hk e he)), h.own.apart⟩
  have hLo : W'.ownsRow B0 45 1 (.slice (some ⟨g, 0, none⟩) ns cs) ns (ls.flatMap csL) := h.rows.own.kept hgr (ne h.t4)
  have hTr : VRow W' W'.heap.size T r.tree := by
    intro i z hi
    obtain ⟨b, off, e, hb, hc, hd⟩ := h.tree i z hi
    have hne : (Value.slice e0.A e0.n e0.c).ownBlock ≠ some b := fun hk => h.t1 b hk _ e rfl
    exact ⟨b, off, e, Nat.lt_of_lt_of_le hb hgr.size, hgr.cell hc (fun e => hne e.symm), hgr.cell hd (fun e => hne e.symm)⟩
  -- the store
  have hAg : ∀ ad, A = some ad → ad.block ≠ g := fun ad hA => by
    have hfl : (Value.slice A n c).ownBlock = some ad.block := by rw [hA]; rfl
    rcases hat with e | e
    · rw [hfl] at e; exact fun e2 => h.t4 _ e.symm (by rw [e2]; rfl)
    · rw [hfl] at e; injection e with e; omega
  have hgo := grown_one W' g q (.slice A n c)
  have hG2 := xo_kept hG hgo (fun e => h.r2 _ e rfl) (h.s2 g rfl)
  have hT2 := vrow_grown hTr hgo (h.s1 g rfl)
  have hset : (ls.flatMap csL).set q (.slice A n c) = (ls.set q ⟨e0.x, e0.l ++ l, A, n, c⟩).flatMap csL := flat_set_one ls q ⟨e0.x, e0.l ++ l, A, n, c⟩ (List.getElem?_eq_some_iff.1 hq).1
  have hL2 : XO csL 1 45 B0 (W'.setCell ⟨g, q, none⟩ (.slice A n c)) (.slice (some ⟨g, 0, none⟩) ns cs) ns (ls.set q ⟨e0.x, e0.l ++ l, A, n, c⟩) := by
    refine ⟨by rw [← hset]; exact (hLo.stored q (.slice A n c)).1, fun e he => ?_, fun e he hne ad hA e2 => ?_⟩
    · obtain ⟨j, hj⟩ := List.mem_iff_getElem?.1 he
      rw [List.getElem?_set] at hj
      by_cases hjq : q = j
      · subst hjq
        rw [if_pos rfl, if_pos (List.getElem?_eq_some_iff.1 hq).1] at hj
        injection hj with hj
        subst hj
        exact row_kept hrow hgo (fun _ ad hA e2 => by injection e2 with e2; exact hAg ad hA e2.symm)
      · rw [if_neg hjq] at hj
        have h1 := row_kept (h.rows.rows e (List.mem_of_getElem? hj)) hgr (h.t5 j e (fun e => hjq e.symm) hj)
        exact row_kept h1 hgo (fun hne ad hA => h.rows.apart e (List.mem_of_getElem? hj) hne ad hA)
    · simp only [Value.ownBlock, Option.some.injEq] at e2
      rcases List.mem_or_eq_of_mem_set he with h' | rfl
      · exact h.rows.apart e h' hne ad hA (by rw [e2]; rfl)
      · exact hAg ad hA e2.symm
  obtain ⟨x1, f1⟩ := own_slice csG_len (by decide) hG2
  obtain ⟨x2, f2⟩ := own_slice csL_len (by decide) hL2
  refine ⟨h.tlen, h.tmax, h.fit, hT2, fun _ ad hA => .inr (by have := h.treeF ad hA; omega), ⟨es, x1, h.is.symm, fun _ ad hA => .inr (by have := f1 ad hA; omega), fun e he _ ad hA => .inr (by have := h.mine e he ad hA; omega)⟩, ⟨_, x2, by rw [map_set_elL, h.isl]; rfl, fun _ ad hA => .inr (by have := f2 ad hA; omega), fun e he _ ad hA => .inr ?_⟩, h.on, h.size⟩
  rcases List.mem_or_eq_of_mem_set he with h' | rfl
  · have := h.lie e h' ad hA; omega
  · have := hfr ad hA; omega
theorem may_tree {r : Jp.Rn} (h : Jp.May r) : r.tree ≠ [] := fun e => by
  have := h.tree
  rw [e] at this
  exact absurd this (by decide)
theorem Told.ns {B0 B1 B2 B3 : Nat} {d : Ad} {r : Jp.Rn} {es ls : List El} {W : World} (h : Told B0 B1 B2 B3 d r es ls W) : r.rows.length = d.ns ∧ ls.length = d.ns := by
  have h1 := h.rows.len csL_len (by decide)
  exact ⟨by rw [← h.isl, List.length_map, h1], h1⟩
theorem Told.nr {B0 B1 B2 B3 : Nat} {d : Ad} {r : Jp.Rn} {es ls : List El} {W : World} (h : Told B0 B1 B2 B3 d r es ls W) : r.rings.length = d.nr ∧ es.length = d.nr := by
  have h1 := h.own.len csG_len (by decide)
  exact ⟨by rw [← h.is, List.length_map, h1], h1⟩
theorem nobody {w : World} {b : Nat} (h : More (fun _ => False) w b) : w.heap.size ≤ b := h.resolve_left id
end Go.Proofs.YtinmmcikhjacoaaDoor


/- Runs that are apart, in which a ring or a row is turned: what is left. -/
namespace Go.Proofs.YtinmmcikhjacoaaDoor
open Go.RowKit
set_option linter.unusedVariables false

theorem Ready.rm {F : Nat → Prop} {B0 q : Nat} {d : Ad} {r : Jp.Rn} {es ls : List El} {e0 : El} {W w0 : World} (h : Ready B0 q d r es ls e0 W) (h0 : w0.heap.size ≤ B0) : RM (More F w0) W d r := by
  obtain ⟨x1, f1⟩ := own_slice csG_len (by decide) h.own
  obtain ⟨x2, f2⟩ := own_slice csL_len (by decide) h.rows
  exact ⟨h.tlen, h.tmax, h.fit, h.tree, fun _ ad hA => .inr (by have := h.treeF ad hA; omega), ⟨es, x1, h.is.symm, fun _ ad hA => .inr (by have := f1 ad hA; omega), fun e he _ ad hA => .inr (by have := h.mine e he ad hA; omega)⟩, ⟨ls, x2, h.isl.symm, fun _ ad hA => .inr (by have := f2 ad hA; omega), fun e he _ ad hA => .inr (by have := h.lie e he ad hA; omega)⟩, h.on, h.size⟩
/-- The row cut off, and told in its place. -/
theorem Ready.cut {F : Nat → Prop} {B0 q g nt ct nr cr ns cs : Nat} {T R : Option Addr} {r : Jp.Rn} {es ls : List El} {e0 : El} {w0 W : World} (h : Ready B0 q ⟨T, nt, ct, R, nr, cr, some ⟨g, 0, none⟩, ns, cs⟩ r es ls e0 W) (h0 : w0.heap.size ≤ B0) {l : List Int} {A : Option Addr} {n c : Nat}
    (hr : Row W A n c l) (hA : ∀ ad, A = some ad → ∃ ad0, e0.A = some ad0 ∧ ad.block = ad0.block) :
    RM (More F w0) (W.setCell ⟨g, q, none⟩ (.slice A n c)) ⟨T, nt, ct, R, nr, cr, some ⟨g, 0, none⟩, ns, cs⟩ (Jp.rowed r q l) := by
  have hq := h.at'
  have hln : ls.length = ns := h.rows.len csL_len (by decide)
  have hqn : q < ns := by rw [← hln]; exact (List.getElem?_eq_some_iff.1 hq).1
  have hAg : ∀ ad, A = some ad → ad.block ≠ g := fun ad hAa => by
    obtain ⟨ad0, h1, h2⟩ := hA ad hAa
    have hfl : (Value.slice e0.A e0.n e0.c).ownBlock = some ad0.block := by rw [h1]; rfl
    exact fun e => h.t4 _ hfl (by rw [← h2, e]; rfl)
  have hAl : ∀ ad, A = some ad → B0 ≤ ad.block := fun ad hAa => by
    obtain ⟨ad0, h1, h2⟩ := hA ad hAa
    have := h.lie e0 (List.mem_of_getElem? hq) ad0 h1
    omega
  have hgo := grown_one W g q (.slice A n c)
  have hG2 := xo_kept h.own hgo (fun e => h.r2 _ e rfl) (h.s2 g rfl)
  have hT2 := vrow_grown h.tree hgo (h.s1 g rfl)
  have hL2 := h.rows.set1 q ⟨e0.x, l, A, n, c⟩ hqn hr (fun _ ad hAa e2 => by simp only [Value.ownBlock, Option.some.injEq] at e2; exact hAg ad hAa e2.symm)
  obtain ⟨x1, f1⟩ := own_slice csG_len (by decide) hG2
  obtain ⟨x2, f2⟩ := own_slice csL_len (by decide) hL2
  refine ⟨h.tlen, h.tmax, h.fit, hT2, fun _ ad hA => .inr (by have := h.treeF ad hA; omega), ⟨es, x1, h.is.symm, fun _ ad hA => .inr (by have := f1 ad hA; omega), fun e he _ ad hA => .inr (by have := h.mine e he ad hA; omega)⟩, ⟨_, x2, by rw [map_set_elL, h.isl]; rfl, fun _ ad hA => .inr (by have := f2 ad hA; omega), fun e he _ ad hA => .inr ?_⟩, h.on, h.size⟩
  rcases List.mem_or_eq_of_mem_set he with h' | rfl
  · have := h.lie e h' ad hA; omega
  · have := hAl ad hA; omega
/-- What is written into one block alone, behind new memory. -/
structure Rg (g : Nat) (w w' : World) : Prop where
  box : ∀ b v0 v1 v2 v3 v4, b ≠ g → C5 w b v0 v1 v2 v3 v4 → C5 w' b v0 v1 v2 v3 v4
  held : ∀ B W, B ≤ g → B ≤ w.heap.size → Below B W w → Below B W w'
  cell : ∀ b i v, b ≠ g → w.cell? ⟨b, i, none⟩ = some v → w'.cell? ⟨b, i, none⟩ = some v
theorem Rg.below {g : Nat} {w w' : World} (hb : Below w.heap.size w w') : Rg g w w' :=
  ⟨fun _ _ _ _ _ _ _ h => h.step hb, fun _ _ _ h2 h => h.trans (hb.mono h2), fun _ _ _ _ h => keepcell hb h⟩
theorem Rg.set {g j : Nat} {w w' : World} {u : Value} (h : Rg g w w') : Rg g w (w'.setCell ⟨g, j, none⟩ u) :=
  ⟨fun b v0 v1 v2 v3 v4 hne hc => (h.box b v0 v1 v2 v3 v4 hne hc).far (fun e => hne e.symm), fun B W h1 h2 hb => (h.held B W h1 h2 hb).setCell h1 u, fun b i v hne hc => farcell hne (h.cell b i v hne hc)⟩
theorem Rg.of {g : Nat} {w w1 w2 : World} (hb : Below w.heap.size w w1) (h : Rg g w1 w2) : Rg g w w2 :=
  ⟨fun b v0 v1 v2 v3 v4 hne hc => h.box b v0 v1 v2 v3 v4 hne (hc.step hb), fun B W h1 h2 hb2 => h.held B W h1 (Nat.le_trans h2 hb.size) (hb2.trans (hb.mono h2)), fun b i v hne hc => h.cell b i v hne (keepcell hb hc)⟩
end Go.Proofs.YtinmmcikhjacoaaDoor


/- FindAll's loop: a variable of Runs that is turned, a row that grows, a row that stays. -/
namespace Go.Proofs.YtinmmcikhjacoaaDoor
open Go.RowKit
set_option linter.unusedVariables false

theorem wpList_append_rowat {w : World} {ops : Array Oper} {rest : List Oper} {o : Oper} {a : Act} {Q : Exit → Act → World → Prop} (hgd : o.guard = none) (s x : Operand)
    (ho : o.op = .call { callee := .builtin .append, args := #[s, x], argTypes := #[45, 45] })
    (base : Nat) (v : Value) (n : Nat) (xs : List Int) (hs : a.eval s = v) (hown : w.ownsRow base 3 1 v n (xs.map (Value.int .i64)))
    (A : Option Addr) (m c : Nat) (zs : List Int) (hx : a.eval x = .slice A m c) (h : Row w A m c zs) (hb : n + m ≤ 1000000) (hbase : base ≤ w.heap.size)
    (hK : ∀ v' w', w'.ownsRow base 3 1 v' (n + m) ((xs ++ zs).map (Value.int .i64)) → w.grownBy w' v.ownBlock → (v'.ownBlock = v.ownBlock ∨ v'.ownBlock = some w.heap.size) → wpList Tryd.prog ops Q rest (a.put o.dst v') w') : wpList Tryd.prog ops Q (o :: rest) a w := by
  obtain ⟨v', w', hr, h2, h3, h4⟩ := run_append_rowat w o.type base v n xs hown A m c zs h hb hbase
  refine wpList_plain hgd fun K hK' => ?_
  unfold Oper.wp
  simp [execOp, ho, resolve, invoke, builtin, hs, hx, hr, Result.andThen]
  exact hK' _ _ (hK v' w' h2 h3 h4)
theorem RM.grown {F : Nat → Prop} {w w' : World} {d : Ad} {r : Jp.Rn} {row : Option Nat} (h : RM F w d r) (hg : w.grownBy w' row) (hF : ∀ b, F b → row ≠ some b) : RM F w' d r := by
  obtain ⟨gs, h1, h2, h5⟩ := h.rings
  obtain ⟨ls, h3, h4, h6⟩ := h.rows
  have xr : ∀ {cs : El → List Value} {sz : Nat} {A : Option Addr} {n c : Nat} {es : List El}, XR cs sz w A n c es → LieE F A es → XR cs sz w' A n c es := fun {cs sz A n c es} hx hl => by
    refine ⟨hx.len, hx.cap, hx.most, hx.nil, fun i e hi => ?_, fun e he => row_kept (hx.rows e he) hg (fun hne ad hA => hF _ (hl.2 e he hne ad hA))⟩
    obtain ⟨b, off, e1, hb, hc⟩ := hx.cell i e hi
    have hne := hF _ (hl.1 (fun e => by rw [e] at hi; simp at hi) _ e1)
    exact ⟨b, off, e1, Nat.lt_of_lt_of_le hb hg.size, fun j u hj => hg.cell (hc j u hj) (fun e => hne e.symm)⟩
  refine ⟨h.tlen, h.tmax, h.fit, fun i z hi => ?_, h.lie, ⟨gs, xr h1 h5, h2, h5⟩, ⟨ls, xr h3 h6, h4, h6⟩, h.on, h.size⟩
  obtain ⟨b, off, e, hb, hc, hd⟩ := h.tree i z hi
  have hne := hF _ (h.lie (fun e => by rw [e] at hi; simp at hi) _ e)
  exact ⟨b, off, e, Nat.lt_of_lt_of_le hb hg.size, hg.cell hc (fun e => hne e.symm), hg.cell hd (fun e => hne e.symm)⟩
/-- A variable of Runs at X, a row of the call's own, from base on, another row ahead of it. -/
structure GM (w : World) (X base : Nat) (want : List Int) (Aw : Option Addr) (nw cw : Nat) (zs : List Int) (r : Jp.Rn) (d : Ad) (got : Value) (gn : Nat) (wr : World) : Prop where
  box : C5 wr X (.slice d.T d.nt d.ct) (.int .i64 r.size) (.slice d.R d.nr d.cr) (.slice d.S d.ns d.cs) (.int .u64 (r.on : Nat))
  mem : RM (fun b => b ≠ X ∧ got.ownBlock ≠ some b ∧ b < wr.heap.size) wr d r
  grow : wr.ownsRow base 3 1 got gn (zs.map (Value.int .i64))
  wrow : Row wr Aw nw cw want
  wlow : want ≠ [] → ∀ ad, Aw = some ad → ad.block < base ∧ ad.block ≠ X
  below : Below w.heap.size w wr
  lo1 : w.heap.size ≤ X
  lo2 : X < base
  up : base ≤ wr.heap.size
variable {w : World} {X base : Nat} {want : List Int} {Aw : Option Addr} {nw cw : Nat} {zs : List Int} {r : Jp.Rn} {d : Ad} {got : Value} {gn : Nat} {wr : World}
theorem GM.step {W : World} (h : GM w X base want Aw nw cw zs r d got gn wr) (hb : Below wr.heap.size wr W) : GM w X base want Aw nw cw zs r d got gn W :=
  ⟨h.box.step hb, (h.mem.below hb).mono (fun b hb' => ⟨hb'.1, hb'.2.1, Nat.lt_of_lt_of_le hb'.2.2 hb.size⟩), own_below h.grow hb, h.wrow.below hb, h.wlow, held_trans h.below hb, h.lo1, h.lo2, Nat.le_trans h.up hb.size⟩
/-- Other Runs are told to the variable. -/
theorem GM.turn {u V : World} {d2 : Ad} {r2 : Jp.Rn} (h : GM w X base want Aw nw cw zs r d got gn wr) (hm : RM (More (fun b => b ≠ X ∧ got.ownBlock ≠ some b ∧ b < wr.heap.size) wr) u d2 r2) (hb : Below wr.heap.size wr u) (hv : Below u.heap.size u V) :
    GM w X base want Aw nw cw zs r2 d2 got gn (put5 V X (.slice d2.T d2.nt d2.ct) (.int .i64 r2.size) (.slice d2.R d2.nr d2.cr) (.slice d2.S d2.ns d2.cs) (.int .u64 (r2.on : Nat))) := by
  have hbv := hb.trans (hv.mono hb.size)
  have h2 := h.step hbv
  have hX := h.box.lt
  have hgb : ∀ g, got.ownBlock = some g → base ≤ g ∧ g < wr.heap.size := fun g hg => h.grow.lt g hg
  have hF : ∀ b, (More (fun b => b ≠ X ∧ got.ownBlock ≠ some b ∧ b < wr.heap.size) wr) b ∧ b < u.heap.size → b ≠ X ∧ got.ownBlock ≠ some b ∧ b < V.heap.size := fun b hb' => by
    have hvs := hv.size
    rcases hb'.1 with h' | h'
    · exact ⟨h'.1, h'.2.1, by omega⟩
    · exact ⟨by omega, fun e => by have := (hgb b e).2; omega, by omega⟩
  have m1 := ((hm.bound.below hv).mono hF).put (X := X) (fun h => h.1 rfl) (.slice d2.T d2.nt d2.ct) (.int .i64 r2.size) (.slice d2.R d2.nr d2.cr) (.slice d2.S d2.ns d2.cs) (.int .u64 (r2.on : Nat))
  have hgo := grown_put5 V X (.slice d2.T d2.nt d2.ct) (.int .i64 r2.size) (.slice d2.R d2.nr d2.cr) (.slice d2.S d2.ns d2.cs) (.int .u64 (r2.on : Nat))
  have hlo2 := h.lo2
  exact ⟨h2.box.put _ _ _ _ _, m1.mono (fun b hb' => ⟨hb'.1, hb'.2.1, Nat.lt_of_lt_of_le hb'.2.2 hgo.size⟩), h2.grow.kept hgo (by
    cases hob : got.ownBlock with
    | none => exact .inl rfl
    | some g => exact .inr (fun e => by injection e with e; have := (hgb g hob).1; omega)), row_kept h2.wrow hgo (fun hne ad hA e => by injection e with e; exact (h.wlow hne ad hA).2 e.symm), h.wlow, below_put h2.below h.lo1 _ _ _ _ _, h.lo1, h.lo2, Nat.le_trans h2.up hgo.size⟩
/-- The row grows. -/
theorem GM.add {W : World} {got' : Value} {gn' : Nat} {zs' : List Int} (h : GM w X base want Aw nw cw zs r d got gn wr) (ho : W.ownsRow base 3 1 got' gn' (zs'.map (Value.int .i64))) (hg : wr.grownBy W got.ownBlock) (hat : got'.ownBlock = got.ownBlock ∨ got'.ownBlock = some wr.heap.size) :
    GM w X base want Aw nw cw zs' r d got' gn' W := by
  have hgb : ∀ g, got.ownBlock = some g → base ≤ g ∧ g < wr.heap.size := fun g hg => h.grow.lt g hg
  have hlo1 := h.lo1
  have hlo2 := h.lo2
  refine ⟨h.box.grown hg (fun e => by have := (hgb X e.symm).1; omega), (h.mem.grown hg (fun b hb => hb.2.1)).mono (fun b hb => ⟨hb.1, fun e => ?_, Nat.lt_of_lt_of_le hb.2.2 hg.size⟩), ho, row_kept h.wrow hg (fun hne ad hA e => by have := (hgb _ e).1; have := (h.wlow hne ad hA).1; omega), h.wlow, h.below.grown hg h.below.size (fun k hk => by have := (hgb k hk).1; omega), h.lo1, h.lo2, Nat.le_trans h.up hg.size⟩
  rcases hat with e2 | e2
  · rw [e2] at e; exact hb.2.1 e
  · rw [e2] at e; injection e with e; have := hb.2.2; omega
end Go.Proofs.YtinmmcikhjacoaaDoor


/- find.ofRing and find.ofRow, by their contracts. -/
namespace Go.Proofs.YtinmmcikhjacoaaDoor
open Go.RowKit
set_option linter.unusedVariables false

/-- Who is found in a ring: the one told, and where. -/
theorem take_nobody : Rp.take (0, []) = ((0, []), 0) := rfl
theorem take_ring (y : Int) (t : List Int) : Rp.take (0, y :: t) = ((0, t), y) := rfl
theorem take_next {x : Int} (hx : x ≠ 0) (t : List Int) : Rp.take (x, t) = ((0, t), x) := by unfold Rp.take; rw [if_neg hx]
/-- What a look leaves: nobody; or somebody, taken out. -/
def Found (no : Prop) (y pl : Int) (g : Nat) (w : World) (R : World → Prop) (e : Ending) (w' : World) : Prop :=
  (no ∧ e = .returned (.tuple #[.int .i64 0, .int .i64 0]) ∧ Below w.heap.size w w') ∨ (¬ no ∧ e = .returned (.tuple #[.int .i64 y, .int .i64 pl]) ∧ Rg g w w' ∧ R w')
theorem Found.nobody {no : Prop} {y pl : Int} {g : Nat} {w w' : World} {R : World → Prop} (h : no) (hb : Below w.heap.size w w') : Found no y pl g w R (.returned (.tuple #[.int .i64 0, .int .i64 0])) w' := .inl ⟨h, rfl, hb⟩
theorem Found.some {no : Prop} {y pl y' pl' : Int} {g : Nat} {w w' : World} {R : World → Prop} (h : ¬ no) (hy : y' = y) (hp : pl' = pl) (hr : Rg g w w') (hR : R w') : Found no y pl g w R (.returned (.tuple #[.int .i64 y', .int .i64 pl'])) w' := by
  subst hy hp
  exact .inr ⟨h, rfl, hr, hR⟩
set_option maxRecDepth 100000 in
set_option maxHeartbeats 2000000 in
theorem ofRing_any {F : Nat → Prop} {B0 q k g nt ct nr cr ns cs : Nat} {T S : Option Addr} {r : Jp.Rn} {es ls : List El} {e0 : El} {x : Int} {t : List Int} (w w0 : World) (h : Ready B0 q ⟨T, nt, ct, some ⟨g, 0, none⟩, nr, cr, S, ns, cs⟩ r es ls e0 w) (hk : k < nr) (h0 : w0.heap.size ≤ B0)
    (hx : r.rings[k]? = some (x, t)) (hl : t.length ≤ 400) (hz : ∀ z ∈ t, z ≠ 0) :
    Calls Tryd.prog 29 #[.slice (some ⟨g, 0, none⟩) nr cr, .int .i64 (k : Nat)] w
      (Found (x = 0 ∧ t = []) (Rp.take (x, t)).2 (if x = 0 then 2 else 1) g w fun w' => RM (More F w0) w' ⟨T, nt, ct, some ⟨g, 0, none⟩, nr, cr, S, ns, cs⟩ (Jp.ringed r k (0, (Rp.take (x, t)).1.2))) := by
  have H := Lib.hid h
  have hen : (es.map elG)[k]? = some (x, t) := by rw [h.is]; exact hx
  rw [List.getElem?_map] at hen
  obtain ⟨e, he, hee⟩ : ∃ e, es[k]? = some e ∧ elG e = (x, t) := by
    cases he : es[k]? with
    | none => rw [he] at hen; cases hen
    | some e => rw [he] at hen; injection hen with hen; exact ⟨e, rfl, hen⟩
  obtain ⟨ex, el, A, n, c⟩ := e
  injection hee with e1 e2
  subst e1 e2
  obtain ⟨xr, _⟩ := own_slice csG_len (by decide) h.own
  obtain ⟨b, off, eb, _, hcs⟩ := xr.cell k _ he
  injection eb with eb
  injection eb with eb1 eb2 _
  subst eb1 eb2
  have p0 := hcs 0 _ rfl
  have p1 := hcs 1 _ rfl
  rw [Nat.zero_add] at p0 p1
  rw [Nat.add_zero] at p0
  have hrow := xr.rows _ (List.mem_of_getElem? he)
  simp only at hrow hx hl hz ⊢
  have hlen := hrow.len
  have i0 : (0 : Int) ≤ (k : Int) := by omega
  have i1 : (k : Int) < (nr : Int) := by omega
  clear h hen he hcs xr
  by_cases hx0 : ex = 0
  · subst hx0
    cases el with
    | nil =>
      have HT := Lib.hid take_nobody
      go_enter Tryd.func29, Tryd.ntmps29
      go_wp2_with fail
      refine (take_any 0 A n c [] w hrow (by omega)).mono ?_
      rintro e w1 ⟨A1, n1, c1, rfl, hr1, hf1, hb1⟩
      rw [HT.out] at hr1 ⊢
      simp only at hr1 ⊢
      have hb2 := below_new w1 (.cells #[.int .i64 0, .slice A1 n1 c1] 48)
      have HB := Lib.hid (held_trans hb1 hb2)
      clear hb1 hb2 hr1 hf1
      go_wp2_with fail
      refine bodyPost_ret (v := .tuple #[.int .i64 0, .int .i64 0]) (by simp [results, Tryd.results29, go_sem]) rfl ?_
      exact Found.nobody (by simp) HB.out
    | cons y t =>
      have HT := Lib.hid (take_ring y t)
      have y0 : (y == 0) = false := by rw [beq_eq_false_iff_ne]; exact hz y (List.mem_cons_self ..)
      have x0 : ((0 : Int) != 0) = false := rfl
      go_enter Tryd.func29, Tryd.ntmps29
      go_wp2_with fail
      refine (take_any 0 A n c (y :: t) w hrow (by omega)).mono ?_
      rintro e w1 ⟨A1, n1, c1, rfl, hr1, hf1, hb1⟩
      rw [HT.out] at hr1 ⊢
      simp only at hr1 ⊢
      obtain ⟨w2, hw2⟩ : ∃ w2, w2 = w1.alloc (.cells #[.int .i64 0, .slice A1 n1 c1] 48) := ⟨_, rfl⟩
      have hb2 : Below w1.heap.size w1 w2 := by rw [hw2]; exact below_new _ _
      have n0 : w2.cell? ⟨w1.heap.size, 0, none⟩ = some (.int .i64 0) := by rw [hw2, World.cell?_alloc_at _ _ _ _ rfl]; rfl
      have n1' : w2.cell? ⟨w1.heap.size, 1, none⟩ = some (.slice A1 n1 c1) := by rw [hw2, World.cell?_alloc_at _ _ _ _ rfl]; rfl
      have hb12 := held_trans hb1 hb2
      have H2 := H.out.step hb12
      have hfz0 : w2.frozen? ⟨g, k * 2, none⟩ = false := H2.own.own.frozenAt (k * 2)
      have hfz1 : w2.frozen? ⟨g, k * 2 + 1, none⟩ = false := H2.own.own.frozenAt (k * 2 + 1)
      have d0 := keepcell hb12 p0
      have d1 := keepcell hb12 p1
      have HR := Lib.hid ((H2.ring hk (x := (0, t)) (hr1.below hb2) hf1 H.out.up (H.out.own.own.lt g rfl).2 (fun j hj => (H.out.ours.lt j hj).2) (fun j hj => (H.out.rows.own.lt j hj).2)).rm (F := F) h0)
      have RG := Lib.hid (((Rg.below (g := g) hb12).set (j := k * 2) (u := .int .i64 0)).set (j := k * 2 + 1) (u := .slice A1 n1 c1))
      have E2 := Lib.hid hw2
      clear hb1 hb2 hb12 hw2 hr1 hf1 H2 p0 p1
      go_wp2_with (rw [← E2.out])
      refine bodyPost_ret (v := .tuple #[.int .i64 y, .int .i64 2]) (by simp [results, Tryd.results29, go_sem]) rfl ?_
      exact Found.some (by simp) rfl rfl RG.out (by first | exact HR.out | (rw [HT.out]; exact HR.out))
  · have HT := Lib.hid (take_next hx0 el)
    have y0 : (ex == 0) = false := by rw [beq_eq_false_iff_ne]; exact hx0
    have x0 : (ex != 0) = true := by rw [bne_iff_ne]; exact hx0
    have HI := Lib.hid (show (if ex = 0 then (2 : Int) else 1) = 1 from if_neg hx0)
    go_enter Tryd.func29, Tryd.ntmps29
    go_wp2_with fail
    refine (take_any ex A n c el w hrow (by omega)).mono ?_
    rintro e w1 ⟨A1, n1, c1, rfl, hr1, hf1, hb1⟩
    rw [HT.out] at hr1 ⊢
    simp only at hr1 ⊢
    obtain ⟨w2, hw2⟩ : ∃ w2, w2 = w1.alloc (.cells #[.int .i64 0, .slice A1 n1 c1] 48) := ⟨_, rfl⟩
    have hb2 : Below w1.heap.size w1 w2 := by rw [hw2]; exact below_new _ _
    have n0 : w2.cell? ⟨w1.heap.size, 0, none⟩ = some (.int .i64 0) := by rw [hw2, World.cell?_alloc_at _ _ _ _ rfl]; rfl
    have n1' : w2.cell? ⟨w1.heap.size, 1, none⟩ = some (.slice A1 n1 c1) := by rw [hw2, World.cell?_alloc_at _ _ _ _ rfl]; rfl
    have hb12 := held_trans hb1 hb2
    have H2 := H.out.step hb12
    have hfz0 : w2.frozen? ⟨g, k * 2, none⟩ = false := H2.own.own.frozenAt (k * 2)
    have hfz1 : w2.frozen? ⟨g, k * 2 + 1, none⟩ = false := H2.own.own.frozenAt (k * 2 + 1)
    have d0 := keepcell hb12 p0
    have d1 := keepcell hb12 p1
    have HR := Lib.hid ((H2.ring hk (x := (0, el)) (hr1.below hb2) hf1 H.out.up (H.out.own.own.lt g rfl).2 (fun j hj => (H.out.ours.lt j hj).2) (fun j hj => (H.out.rows.own.lt j hj).2)).rm (F := F) h0)
    have RG := Lib.hid (((Rg.below (g := g) hb12).set (j := k * 2) (u := .int .i64 0)).set (j := k * 2 + 1) (u := .slice A1 n1 c1))
    have E2 := Lib.hid hw2
    clear hb1 hb2 hb12 hw2 hr1 hf1 H2 p0 p1
    go_wp2_with (rw [← E2.out])
    refine bodyPost_ret (v := .tuple #[.int .i64 ex, .int .i64 1]) (by simp [results, Tryd.results29, go_sem]) rfl ?_
    exact Found.some (by simp) (by rw [HT.out]) rfl RG.out (by first | exact HR.out | (rw [HT.out]; exact HR.out))
set_option maxRecDepth 100000 in
set_option maxHeartbeats 2000000 in
theorem ofRow_any {F : Nat → Prop} {B0 q g nt ct nr cr ns cs : Nat} {T R : Option Addr} {r : Jp.Rn} {es ls : List El} {e0 : El} (w w0 : World) (h : Ready B0 q ⟨T, nt, ct, R, nr, cr, some ⟨g, 0, none⟩, ns, cs⟩ r es ls e0 w) (hq : q < ns) (h0 : w0.heap.size ≤ B0) :
    Calls Tryd.prog 31 #[.slice (some ⟨g, 0, none⟩) ns cs, .int .i64 (q : Nat)] w
      (Found (e0.l = []) (e0.l.headD 0) 3 g w fun w' => RM (More F w0) w' ⟨T, nt, ct, R, nr, cr, some ⟨g, 0, none⟩, ns, cs⟩ (Jp.rowed r q e0.l.tail)) := by
  have H := Lib.hid h
  have HC := Lib.hid (fun l A n c => h.cut (F := F) (w0 := w0) h0 (l := l) (A := A) (n := n) (c := c))
  have he := h.at'
  obtain ⟨ex, el, A, n, c⟩ := e0
  obtain ⟨xr, _⟩ := own_slice csL_len (by decide) h.rows
  obtain ⟨b, off, eb, _, hcs⟩ := xr.cell q _ he
  injection eb with eb
  injection eb with eb1 eb2 _
  subst eb1 eb2
  have c0 := hcs 0 _ rfl
  rw [Nat.zero_add, Nat.mul_one, Nat.add_zero] at c0
  have hrow := xr.rows _ (List.mem_of_getElem? he)
  have hfz : w.frozen? ⟨g, q, none⟩ = false := h.rows.own.frozenAt q
  simp only at hrow c0 HC ⊢
  have hlen := hrow.len
  have i0 : (0 : Int) ≤ (q : Int) := by omega
  have i1 : (q : Int) < (ns : Int) := by omega
  clear h he hcs xr
  cases el with
  | nil =>
    obtain rfl : n = 0 := by rw [← hlen]; rfl
    go_enter Tryd.func31, Tryd.ntmps31
    go_wp2_with fail
    refine bodyPost_ret (v := .tuple #[.int .i64 0, .int .i64 0]) (by simp [results, Tryd.results31, go_sem]) rfl ?_
    exact Found.nobody (by simp) (Below.refl _ _)
  | cons y t =>
    have hn1 : 0 < n := by rw [← hlen]; simp
    obtain ⟨b, off, rfl, hb, hcL⟩ := hrow.cells hn1
    have cg := hcL 0 y rfl
    rw [Nat.add_zero] at cg
    have hgb : b ≠ g := fun e => by subst e; exact H.out.t4 b rfl rfl
    have cg' := fun u => farcell (X := g) (j := q) (u := u) hgb cg
    have hsl := hrow.slice 1 (by omega)
    have hcap := hrow.cap
    have s1 : (1 : Int) ≤ (n : Int) := by omega
    have s2 : ¬ ((n : Int) < 1) := by omega
    have s3 : ((n : Int) == 0) = false := by rw [beq_eq_false_iff_ne]; omega
    have s4 : (0 : Int) < (n : Int) := by omega
    have s5 : ¬ c < 1 := by omega
    have s6 : 1 ≤ n := by omega
    by_cases hc1 : c = 1
    · obtain rfl : n = 1 := by omega
      subst hc1
      have HR := Lib.hid (HC.out t _ _ _ (by rw [if_pos rfl, List.drop_one, List.tail_cons] at hsl; exact hsl) (fun ad e => ⟨_, rfl, by injection e with e; rw [← e]⟩))
      have RG := Lib.hid ((Rg.below (g := g) (Below.refl w.heap.size w)).set (j := q) (u := .slice (some ⟨b, off, none⟩) 0 0))
      clear hsl hcL hrow HC
      go_enter Tryd.func31, Tryd.ntmps31
      go_wp2_with fail
      refine bodyPost_ret (v := .tuple #[.int .i64 y, .int .i64 3]) (by simp [results, Tryd.results31, go_sem]) rfl ?_
      exact Found.some (by simp) rfl rfl RG.out HR.out
    · have HR := Lib.hid (HC.out t _ _ _ (by rw [if_neg hc1, List.drop_one, List.tail_cons] at hsl; exact hsl) (fun ad e => ⟨_, rfl, by injection e with e; rw [← e]⟩))
      have RG := Lib.hid ((Rg.below (g := g) (Below.refl w.heap.size w)).set (j := q) (u := .slice (some ⟨b, off + 1, none⟩) (n - 1) (c - 1)))
      clear hsl hcL hrow HC
      go_enter Tryd.func31, Tryd.ntmps31
      go_wp2_with fail
      refine bodyPost_ret (v := .tuple #[.int .i64 y, .int .i64 3]) (by simp [results, Tryd.results31, go_sem]) rfl ?_
      exact Found.some (by simp) rfl rfl RG.out HR.out
end Go.Proofs.YtinmmcikhjacoaaDoor


/- Local's two closures, by their contracts: who is next of its own, who is first in the row. -/
namespace Go.Proofs.YtinmmcikhjacoaaDoor
open Go.RowKit
set_option linter.unusedVariables false

theorem Found.of {no : Prop} {y pl : Int} {g : Nat} {w w1 w' : World} {R : World → Prop} {e : Ending} (hb : Below w.heap.size w w1) (h : Found no y pl g w1 R e w') : Found no y pl g w R e w' := by
  rcases h with ⟨h1, h2, h3⟩ | ⟨h1, h2, h3, h4⟩
  · exact .inl ⟨h1, h2, hb.trans (h3.mono hb.size)⟩
  · exact .inr ⟨h1, h2, h3.of hb, h4⟩
theorem Found.form {no : Prop} {y pl : Int} {g : Nat} {w w' : World} {R : World → Prop} {e : Ending} (h : Found no y pl g w R e w') : ∃ y' pl', e = .returned (.tuple #[.int .i64 y', .int .i64 pl']) ∧ Rg g w w' := by
  rcases h with ⟨h1, h2, h3⟩ | ⟨h1, h2, h3, h4⟩
  · exact ⟨_, _, h2, Rg.below h3⟩
  · exact ⟨_, _, h2, h3⟩
set_option maxRecDepth 100000 in
set_option maxHeartbeats 1000000 in
theorem own_any {F : Nat → Prop} {B0 q k g nt ct nr cr ns cs Y P : Nat} {T S : Option Addr} {r : Jp.Rn} {es ls : List El} {e0 : El} {x : Int} {t : List Int} (w w0 : World) (h : Ready B0 q ⟨T, nt, ct, some ⟨g, 0, none⟩, nr, cr, S, ns, cs⟩ r es ls e0 w) (hk : k < nr) (h0 : w0.heap.size ≤ B0)
    (hx : r.rings[k]? = some (x, t)) (hl : t.length ≤ 400) (hz : ∀ z ∈ t, z ≠ 0) (hY : w.cell? ⟨Y, 2, none⟩ = some (.slice (some ⟨g, 0, none⟩) nr cr)) (hP : w.cell? ⟨P, 0, none⟩ = some (.int .i64 (k : Nat))) :
    Calls Tryd.prog 28 #[.pointer (some ⟨Y, 0, none⟩), .pointer (some ⟨P, 0, none⟩)] w
      (Found (x = 0 ∧ t = []) (Rp.take (x, t)).2 (if x = 0 then 2 else 1) g w fun w' => RM (More F w0) w' ⟨T, nt, ct, some ⟨g, 0, none⟩, nr, cr, S, ns, cs⟩ (Jp.ringed r k (0, (Rp.take (x, t)).1.2))) := by
  have HC := Lib.hid (ofRing_any (F := F) w w0 h hk h0 hx hl hz)
  clear h hx hl hz
  obtain ⟨no, hno⟩ : ∃ no, no = (x = 0 ∧ t = []) := ⟨_, rfl⟩
  obtain ⟨a, ha⟩ : ∃ a, a = (Rp.take (x, t)).2 := ⟨_, rfl⟩
  obtain ⟨b, hb⟩ : ∃ b : Int, b = (if x = 0 then 2 else 1) := ⟨_, rfl⟩
  obtain ⟨RR, hRR⟩ : ∃ RR : World → Prop, RR = fun w' => RM (More F w0) w' ⟨T, nt, ct, some ⟨g, 0, none⟩, nr, cr, S, ns, cs⟩ (Jp.ringed r k (0, (Rp.take (x, t)).1.2)) := ⟨_, rfl⟩
  rw [← hno, ← ha, ← hb, ← hRR] at HC ⊢
  clear hno ha hb hRR
  go_enter Tryd.func28, Tryd.ntmps28
  go_wp2_with fail
  refine HC.out.mono ?_
  intro e w1 hf
  obtain ⟨y', pl', rfl, _⟩ := hf.form
  have HF := Lib.hid hf
  clear hf HC hY hP
  go_wp2_with fail
  refine bodyPost_ret (v := .tuple #[.int .i64 y', .int .i64 pl']) (by simp [results, Tryd.results28, go_sem]) rfl HF.out
set_option maxRecDepth 100000 in
set_option maxHeartbeats 1000000 in
theorem rowd_any {F F0 : Nat → Prop} {B0 q k g nt ct nr cr ns cs X Y P : Nat} {T R : Option Addr} {d0 : Ad} {r : Jp.Rn} {es ls : List El} {e0 : El} (w w0 : World) (h : Ready B0 q ⟨T, nt, ct, R, nr, cr, some ⟨g, 0, none⟩, ns, cs⟩ r es ls e0 w) (hq : q < ns) (h0 : w0.heap.size ≤ B0) (H0 : RM F0 w d0 r) (hn : Dp.node r.tree k = (q : Nat))
    (hX : w.cell? ⟨X, 0, none⟩ = some (.slice d0.T d0.nt d0.ct)) (hY : w.cell? ⟨Y, 3, none⟩ = some (.slice (some ⟨g, 0, none⟩) ns cs)) (hP : w.cell? ⟨P, 0, none⟩ = some (.int .i64 (k : Nat))) (gX : X ≠ g) (gY : Y ≠ g) (gP : P ≠ g) :
    Calls Tryd.prog 30 #[.pointer (some ⟨Y, 0, none⟩), .pointer (some ⟨X, 0, none⟩), .pointer (some ⟨P, 0, none⟩)] w
      (Found (e0.l = []) (e0.l.headD 0) 3 g w fun w' => RM (More F w0) w' ⟨T, nt, ct, R, nr, cr, some ⟨g, 0, none⟩, ns, cs⟩ (Jp.rowed r q e0.l.tail)) := by
  have HN := Lib.hid (node_any d0.T d0.nt d0.ct r.tree k w.drew (Lib.hid H0.tlen) H0.tmax (Lib.hid H0.fit) (H0.below (Below.refl _ _).drew).tree)
  have HC := Lib.hid (fun W (hb : Below w.heap.size w W) => ofRow_any (F := F) W w0 (h.step hb) hq h0)
  clear h H0
  obtain ⟨no, hno⟩ : ∃ no, no = (e0.l = []) := ⟨_, rfl⟩
  obtain ⟨a, ha⟩ : ∃ a, a = e0.l.headD 0 := ⟨_, rfl⟩
  obtain ⟨RR, hRR⟩ : ∃ RR : World → Prop, RR = fun w' => RM (More F w0) w' ⟨T, nt, ct, R, nr, cr, some ⟨g, 0, none⟩, ns, cs⟩ (Jp.rowed r q e0.l.tail) := ⟨_, rfl⟩
  rw [← hno, ← ha, ← hRR] at HC ⊢
  clear hno ha hRR
  obtain ⟨A0, n0, c0, hA0⟩ : ∃ A0 n0 c0, (A0, n0, c0) = (d0.T, d0.nt, d0.ct) := ⟨_, _, _, rfl⟩
  injection hA0 with e1 e2
  injection e2 with e2 e3
  rw [← e1, ← e2, ← e3] at HN hX
  clear e1 e2 e3
  go_enter Tryd.func30, Tryd.ntmps30
  go_wp2_with fail
  refine wp_region_held_drew (S := fun w' => w'.cell? ⟨X, 0, none⟩ = some (.slice A0 n0 c0) ∧ w'.cell? ⟨Y, 3, none⟩ = some (.slice (some ⟨g, 0, none⟩) ns cs) ∧ w'.cell? ⟨P, 0, none⟩ = some (.int .i64 (k : Nat))) (by kernel_rfl) ⟨hX, hY, hP⟩ (fun hHeld => ?_)
  refine wpAnyH_takesJ (i := 0) (v := (.pointer (some ⟨Y, 3, none⟩))) (some 5) rfl rfl (by kernel_rfl) (by kernel_rfl) (by kernel_rfl) (fun _ _ _ h => h) (Or.inl ⟨by rfl, (by intro W9 hSw; (try dsimp only at hSw); go_simp; first | done | with_reducible rfl)⟩) (by assumption) ?_
  simp only [Act.put, List.setIfInBounds_toArray]; try simp only [List.set_cons_zero, List.set_cons_succ]
  refine wpAnyH_takesJ (i := 1) (v := (.slice (some ⟨g, 0, none⟩) ns cs)) (some 6) rfl rfl (by kernel_rfl) (by kernel_rfl) (by kernel_rfl) (fun _ _ _ h => h) (Or.inl ⟨by rfl, (by intro W9 hSw; (try dsimp only at hSw); go_simp; first | done | with_reducible rfl)⟩) (by assumption) ?_
  simp only [Act.put, List.setIfInBounds_toArray]; try simp only [List.set_cons_zero, List.set_cons_succ]
  refine wpAnyH_takesJ (i := 2) (v := (.pointer (some ⟨X, 0, none⟩))) (some 7) rfl rfl (by kernel_rfl) (by kernel_rfl) (by kernel_rfl) (fun _ _ _ h => h) (Or.inl ⟨by rfl, (by intro W9 hSw; (try dsimp only at hSw); go_simp; first | done | with_reducible rfl)⟩) (by assumption) ?_
  simp only [Act.put, List.setIfInBounds_toArray]; try simp only [List.set_cons_zero, List.set_cons_succ]
  refine wpAnyH_takesJ (i := 3) (v := (.slice A0 n0 c0)) (some 8) rfl rfl (by kernel_rfl) (by kernel_rfl) (by kernel_rfl) (fun _ _ _ h => h) (Or.inl ⟨by rfl, (by intro W9 hSw; (try dsimp only at hSw); go_simp; first | done | with_reducible rfl)⟩) (by assumption) ?_
  simp only [Act.put, List.setIfInBounds_toArray]; try simp only [List.set_cons_zero, List.set_cons_succ]
  refine wpAnyH_takesJ (i := 4) (v := (.int .i64 (k : Nat))) (some 9) rfl rfl (by kernel_rfl) (by kernel_rfl) (by kernel_rfl) (fun _ _ _ h => h) (Or.inl ⟨by rfl, (by intro W9 hSw; (try dsimp only at hSw); go_simp; first | done | with_reducible rfl)⟩) (by assumption) ?_
  simp only [Act.put, List.setIfInBounds_toArray]; try simp only [List.set_cons_zero, List.set_cons_succ]
  refine wpAnyH_ready (rs := [5]) (by kernel_rfl) (by simp) ?_
  refine AllReadyH.cons rfl (fun K hK => ?_) AllReadyH.nil
  go_simp
  go_at_call 18
  refine HN.out.mono ?_
  rintro e w1 ⟨rfl, hb1⟩
  rw [hn]
  have hb1' := below_of_drew hb1
  refine hK.out _ _ (by exact ⟨keepcell hb1' hX, keepcell hb1' hY, keepcell hb1' hP⟩) (fun hHeld => ?_)
  have C2 := Lib.hid (HC.out w1 hb1')
  have B1 := Lib.hid hb1'
  have qX := keepcell hb1' hX
  have qY := keepcell hb1' hY
  have qP := keepcell hb1' hP
  clear hK K hb1 hb1' HC HN hX hY hP
  try dsimp only
  refine wpAnyH_ready (rs := [6]) (by kernel_rfl) (by simp) ?_
  refine AllReadyH.cons rfl (fun K hK => ?_) AllReadyH.nil
  go_simp
  go_at_call 31
  refine C2.out.mono ?_
  intro e w2 hf
  have hf2 := hf.of (show Below w.heap.size w w1 from B1.out)
  obtain ⟨y', pl', rfl, hrg⟩ := hf.form
  have HF := Lib.hid hf2
  refine hK.out _ _ (by exact ⟨hrg.cell _ _ _ gX qX, hrg.cell _ _ _ gY qY, hrg.cell _ _ _ gP qP⟩) (fun hHeld => ?_)
  clear hK K hf hf2 hrg C2 B1 qX qY qP
  try dsimp only
  refine wpAnyH_takesJ (i := 7) (v := (.int .i64 y')) (some 12) rfl rfl (by kernel_rfl) (by kernel_rfl) (by kernel_rfl) (fun _ _ _ h => h) (Or.inl ⟨by rfl, (by intro W9 hSw; (try dsimp only at hSw); go_simp; first | done | with_reducible rfl)⟩) (by assumption) ?_
  simp only [Act.put, List.setIfInBounds_toArray]; try simp only [List.set_cons_zero, List.set_cons_succ]
  refine wpAnyH_takesJ (i := 8) (v := (.int .i64 pl')) (some 13) rfl rfl (by kernel_rfl) (by kernel_rfl) (by kernel_rfl) (fun _ _ _ h => h) (Or.inl ⟨by rfl, (by intro W9 hSw; (try dsimp only at hSw); go_simp; first | done | with_reducible rfl)⟩) (by assumption) ?_
  simp only [Act.put, List.setIfInBounds_toArray]; try simp only [List.set_cons_zero, List.set_cons_succ]
  refine wpAnyH_takesJ (i := 9) (v := (.int .i64 y')) (some 3) rfl rfl (by kernel_rfl) (by kernel_rfl) (by kernel_rfl) (fun _ _ _ h => h) (Or.inl ⟨by rfl, (by intro W9 hSw; (try dsimp only at hSw); go_simp; first | done | with_reducible rfl)⟩) (by assumption) ?_
  simp only [Act.put, List.setIfInBounds_toArray]; try simp only [List.set_cons_zero, List.set_cons_succ]
  refine wpAnyH_takesJ (i := 10) (v := (.int .i64 pl')) (some 4) rfl rfl (by kernel_rfl) (by kernel_rfl) (by kernel_rfl) (fun _ _ _ h => h) (Or.inl ⟨by rfl, (by intro W9 hSw; (try dsimp only at hSw); go_simp; first | done | with_reducible rfl)⟩) (by assumption) ?_
  simp only [Act.put, List.setIfInBounds_toArray]; try simp only [List.set_cons_zero, List.set_cons_succ]
  refine wpAnyH_done (by kernel_rfl) ?_ _
  go_wp2_with fail
  refine bodyPost_ret (v := .tuple #[.int .i64 y', .int .i64 pl']) (by simp [results, Tryd.results30, go_sem]) rfl HF.out
end Go.Proofs.YtinmmcikhjacoaaDoor

