/- Contracts and plain mathematics, put together by program (wip/merge.py) out of: JReady WVict YCut WKp. -/
import Derived.Test.YtdohnhdjlhaaaaaGreatDoorJApartW
import Derived.Maps.AppendAt
import Derived.Test.YtdohnhdjlhaaaaaGreatDoorM7
import Derived.Test.YtdohnhdjlhaaaaaGreatDoorWRefVict
import Derived.Test.YtdohnhdjlhaaaaaGreatDoorJMayL
import Derived.Test.YtdohnhdjlhaaaaaGreatDoorM9
import Derived.Test.YtdohnhdjlhaaaaaGreatDoorM1
/- A row of Runs that are told, made longer: an append, and what else stands. -/
namespace Go.Proofs.YtdohnhdjlhaaaaaGreatDoor
open Go.RowKit
set_option linter.unusedVariables false

theorem run_append_rowat (w : World) (ty : TypeId) (base : Nat) (v : Value) (n : Nat) (xs : List Int) (hown : w.ownsRow base 3 1 v n (xs.map (Value.int .i64)))
    (A : Option Addr) (m c : Nat) (zs : List Int) (h : Row w A m c zs) (hb : n + m ≤ 1000000) (hbase : base ≤ w.heap.size) :
    ∃ v' w', (Builtin.append_ #[42, 42] ty #[v, .slice A m c]).run Tryz.prog w = .ok v' w' ∧ w'.ownsRow base 3 1 v' (n + m) ((xs ++ zs).map (Value.int .i64)) ∧ w.grownBy w' v.ownBlock ∧ (v'.ownBlock = v.ownBlock ∨ v'.ownBlock = some w.heap.size) := by
  obtain ⟨i0, hi, hz0, hz1, hz2⟩ := info_parts info_int
  have hl := h.len
  cases A with
  | none =>
    have hc := h.nil rfl
    have h2 := h.cap
    subst hc
    have hm : m = 0 := by omega
    subst hm
    have hv : zs = [] := List.length_eq_zero_iff.1 hl
    subst hv
    exact ⟨v, w, run_append_owned_none (P := Tryz.prog) w base 42 ty 3 i0 1 Tryz.underlying42 hi v n _ hown, by rw [List.append_nil, Nat.add_zero]; exact hown, World.grownBy.refl w _, .inl rfl⟩
  | some ad =>
    have hcells : ∀ j u, (zs.map (Value.int .i64))[j]? = some u → w.cell? (ad.add j) = some u := by
      cases zs with
      | nil => intro j u hj; simp at hj
      | cons y ys =>
        obtain ⟨b, off, e, _⟩ := h.row 0 y rfl
        injection e with e
        subst e
        exact h.icells
    obtain ⟨v', w', h1, h2, h3, _, h5⟩ := run_append_own_at (P := Tryz.prog) w base 42 ty 3 i0 _ 1 8 Tryz.underlying42 hi hz0 hz1 hz2 rfl (by decide) v n _ hown ad m c _ (by rw [List.length_map, hl]; omega) hcells (icells_one zs) (by unfold maxLen; omega) (by omega) hbase
    exact ⟨v', w', h1, by rw [List.map_append]; exact h2, h3, h5⟩
theorem step_append_rowat {w : World} {ops : Array Oper} {o : Oper} {a : Act} {K : Act → World → Prop} {Q : Exit → Act → World → Prop} {E : Prop} (hgd : o.guard = none) (s x : Operand)
    (ho : o.op = .call { callee := .builtin .append, args := #[s, x], argTypes := #[42, 42] })
    (base : Nat) (v : Value) (n : Nat) (xs : List Int) (hs : a.eval s = v) (hown : w.ownsRow base 3 1 v n (xs.map (Value.int .i64)))
    (A : Option Addr) (m c : Nat) (zs : List Int) (hx : a.eval x = .slice A m c) (h : Row w A m c zs) (hb : n + m ≤ 1000000) (hbase : base ≤ w.heap.size)
    (hK : ∀ v' w', w'.ownsRow base 3 1 v' (n + m) ((xs ++ zs).map (Value.int .i64)) → w.grownBy w' v.ownBlock → (v'.ownBlock = v.ownBlock ∨ v'.ownBlock = some w.heap.size) → K (a.put o.dst v') w') :
    if Region.wanted o (yielded ops a.tmps) = true then Oper.wp Tryz.prog o a w K Q else E := by
  obtain ⟨v', w', hr, h2, h3, h4⟩ := run_append_rowat w o.type base v n xs hown A m c zs h hb hbase
  have hw : Region.wanted o (yielded ops a.tmps) = true := by simp [Region.wanted, hgd]
  rw [if_pos hw]
  unfold Oper.wp
  simp [execOp, ho, resolve, invoke, builtin, hs, hx, hr, Result.andThen]
  exact hK v' w' h2 h3 h4
/-- Runs in memory whose row q is the call's own, apart from all else. -/
structure Ready (B0 q : Nat) (d : Ad) (r : Jp.Rn) (es ls : List El) (e0 : El) (W : World) : Prop where
  tlen : r.tree.length = d.nt
  tmax : d.nt ≤ 9223372036854775807
  fit : Fit r.tree
  on : r.on < 18446744073709551616
  size : In64 r.size
  tree : VRow W W.heap.size d.T r.tree
  treeF : From B0 d.T
  own : XO csG 2 54 B0 W (.slice d.R d.nr d.cr) d.nr es
  is : es.map elG = r.rings
  mine : ∀ e ∈ es, From B0 e.A
  rows : XO csL 1 42 B0 W (.slice d.S d.ns d.cs) d.ns ls
  isl : ls.map elL = r.rows
  lie : ∀ e ∈ ls, From B0 e.A
  at' : ls[q]? = some e0
  ours : W.ownsRow B0 3 1 (.slice e0.A e0.n e0.c) e0.n (e0.l.map (Value.int .i64))
  t1 : ∀ g, (Value.slice e0.A e0.n e0.c).ownBlock = some g → ∀ ad, d.T = some ad → ad.block ≠ g
  t2 : ∀ g, (Value.slice e0.A e0.n e0.c).ownBlock = some g → (Value.slice d.R d.nr d.cr).ownBlock ≠ some g
  t3 : ∀ g, (Value.slice e0.A e0.n e0.c).ownBlock = some g → ∀ e ∈ es, e.l ≠ [] → ∀ ad, e.A = some ad → ad.block ≠ g
  t4 : ∀ g, (Value.slice e0.A e0.n e0.c).ownBlock = some g → (Value.slice d.S d.ns d.cs).ownBlock ≠ some g
  t5 : ∀ (j : Nat) (f : El), j ≠ q → ls[j]? = some f → Apart (.slice e0.A e0.n e0.c) f
  r1 : ∀ g, (Value.slice d.R d.nr d.cr).ownBlock = some g → ∀ ad, d.T = some ad → ad.block ≠ g
  r2 : ∀ g, (Value.slice d.R d.nr d.cr).ownBlock = some g → (Value.slice d.S d.ns d.cs).ownBlock ≠ some g
  r3 : ∀ g, (Value.slice d.R d.nr d.cr).ownBlock = some g → ∀ e ∈ ls, e.l ≠ [] → ∀ ad, e.A = some ad → ad.block ≠ g
  s1 : ∀ g, (Value.slice d.S d.ns d.cs).ownBlock = some g → ∀ ad, d.T = some ad → ad.block ≠ g
  s2 : ∀ g, (Value.slice d.S d.ns d.cs).ownBlock = some g → ∀ e ∈ es, e.l ≠ [] → ∀ ad, e.A = some ad → ad.block ≠ g
  up : B0 ≤ W.heap.size
theorem xo_base {cs : El → List Value} {sz : Nat} {ty : TypeId} {b1 b2 n : Nat} {w : World} {v : Value} {es : List El} (h : XO cs sz ty b1 w v n es) (hb : b2 ≤ b1) : XO cs sz ty b2 w v n es := ⟨zown_base' h.own hb, h.rows, h.apart⟩
/-- A tree's block lies below B1. -/
theorem tree_lt {W : World} {B : Nat} {A : Option Addr} {vs : List (Int × Int)} (h : VRow W B A vs) (hne : vs ≠ []) : ∀ ad, A = some ad → ad.block < B := by
  intro ad hA
  obtain ⟨x0, hx0⟩ : ∃ x, vs[0]? = some x := ⟨_, List.getElem?_eq_getElem (List.length_pos_iff.2 hne)⟩
  obtain ⟨b, off, e5, hb, _⟩ := h 0 x0 hx0
  rw [hA] at e5
  injection e5 with e5
  subst e5
  exact hb
theorem Told.ready {B0 B1 B2 B3 : Nat} {d : Ad} {r : Jp.Rn} {es ls : List El} {W : World} (h : Told B0 B1 B2 B3 d r es ls W) (hne : r.tree ≠ []) {q : Nat} {e0 : El} (hq : ls[q]? = some e0) : Ready B0 q d r es ls e0 W := by
  have h01 := h.o01
  have h12 := h.o12
  have h23 := h.o23
  have hup := h.up
  have hT := tree_lt h.tree hne
  have rf : ∀ (i : Nat) e, ls[i]? = some e → From B3 e.A := fun i e hi => by
    obtain ⟨_, _, e1, _, h3⟩ := Row.of_own' (h.ours i e hi)
    injection e1 with e1
    subst e1
    exact h3
  have rf' : ∀ e ∈ ls, From B3 e.A := fun e he => by obtain ⟨i, hi⟩ := List.mem_iff_getElem?.1 he; exact rf i e hi
  have hg0 : ∀ g, (Value.slice e0.A e0.n e0.c).ownBlock = some g → B3 ≤ g := fun g hg => ((h.ours q e0 hq).lt g hg).1
  exact {
    tlen := h.tlen, tmax := h.tmax, fit := h.fit, on := h.on, size := h.size
    tree := h.tree.more (by omega)
    treeF := h.treeF
    own := xo_base h.own h01
    is := h.is
    mine := fun e he => (h.mine e he).mono h01
    rows := xo_base h.rows (by omega)
    isl := h.isl
    lie := fun e he => (rf' e he).mono (by omega)
    at' := hq
    ours := zown_base' (h.ours q e0 hq) (by omega)
    t1 := fun g hg ad hA => by have := hg0 g hg; have := hT ad hA; omega
    t2 := fun g hg e => by have := hg0 g hg; have := h.gl g e; omega
    t3 := fun g hg e he hne ad hA => by have := hg0 g hg; have := h.gr e he hne ad hA; omega
    t4 := fun g hg e => by have := hg0 g hg; have := h.ll g e; omega
    t5 := fun j f hj hf => h.far q j e0 f (fun e => hj e.symm) hq hf
    r1 := fun g hg ad hA => by have := (h.own.own.lt g hg).1; have := hT ad hA; omega
    r2 := fun g hg e => by have := h.gl g hg; have := (h.rows.own.lt g e).1; omega
    r3 := fun g hg e he hne ad hA => by have := h.gl g hg; have := rf' e he ad hA; omega
    s1 := fun g hg ad hA => by have := (h.rows.own.lt g hg).1; have := hT ad hA; omega
    s2 := fun g hg e he hne ad hA => by have := (h.rows.own.lt g hg).1; have := h.gr e he hne ad hA; omega
    up := by omega }
theorem Ready.step {B0 q : Nat} {d : Ad} {r : Jp.Rn} {es ls : List El} {e0 : El} {W W' : World} (h : Ready B0 q d r es ls e0 W) (hb : Below W.heap.size W W') : Ready B0 q d r es ls e0 W' :=
  { h with
    tree := (h.tree.below hb).more hb.size
    own := h.own.step hb
    rows := h.rows.step hb
    ours := own_below h.ours hb
    up := Nat.le_trans h.up hb.size }
theorem vrow_set {W : World} {X j : Nat} {A : Option Addr} {vs : List (Int × Int)} {u : Value} (h : VRow W W.heap.size A vs) (ha : ∀ ad, A = some ad → ad.block ≠ X) : VRow (W.setCell ⟨X, j, none⟩ u) (W.setCell ⟨X, j, none⟩ u).heap.size A vs := vrow_farj h (fun _ => ha)
theorem xo_kept {cs : El → List Value} {sz : Nat} {ty : TypeId} {base n g : Nat} {W W' : World} {v : Value} {es : List El} (h : XO cs sz ty base W v n es) (hg : W.grownBy W' (some g)) (hv : v.ownBlock ≠ some g) (hr : ∀ e ∈ es, e.l ≠ [] → ∀ ad, e.A = some ad → ad.block ≠ g) : XO cs sz ty base W' v n es :=
  ⟨h.own.kept hg (.inr hv), fun e he => row_kept (h.rows e he) hg (fun hne ad hA e2 => by injection e2 with e2; exact hr e he hne ad hA e2.symm), h.apart⟩
theorem map_set_elG (es : List El) (p : Nat) (e : El) : (es.set p e).map elG = (es.map elG).set p (elG e) := List.map_set
theorem map_set_elL (es : List El) (p : Nat) (e : El) : (es.set p e).map elL = (es.map elL).set p (elL e) := List.map_set
theorem vrow_grown {W W' : World} {g : Nat} {A : Option Addr} {vs : List (Int × Int)} (h : VRow W W.heap.size A vs) (hg : W.grownBy W' (some g)) (ha : ∀ ad, A = some ad → ad.block ≠ g) : VRow W' W'.heap.size A vs := by
  intro i z hi
  obtain ⟨b, off, e, hb, hc, hd⟩ := h i z hi
  have hne := ha _ e
  simp only at hne
  exact ⟨b, off, e, Nat.lt_of_lt_of_le hb hg.size, hg.cell hc (fun e => by injection e with e; exact hne e), hg.cell hd (fun e => by injection e with e; exact hne e)⟩
/-- A ring turned. -/
theorem Ready.ring {B0 B q p g nt ct nr cr ns cs : Nat} {T S : Option Addr} {r : Jp.Rn} {es ls : List El} {e0 : El} {W : World} (h : Ready B0 q ⟨T, nt, ct, some ⟨g, 0, none⟩, nr, cr, S, ns, cs⟩ r es ls e0 W) (hp : p < nr) {x : Int × List Int} {A : Option Addr} {n c : Nat}
    (hr : Row W A n c x.2) (hf : From B A) (hB0 : B0 ≤ B) (hg : g < B) (he : ∀ k, (Value.slice e0.A e0.n e0.c).ownBlock = some k → k < B) (hs : ∀ k, (Value.slice S ns cs).ownBlock = some k → k < B) :
    Ready B0 q ⟨T, nt, ct, some ⟨g, 0, none⟩, nr, cr, S, ns, cs⟩ (Jp.ringed r p x) (es.set p ⟨x.1, x.2, A, n, c⟩) ls e0 ((W.setCell ⟨g, p * 2, none⟩ (.int .i64 x.1)).setCell ⟨g, p * 2 + 1, none⟩ (.slice A n c)) := by
  have hgr := (grown_one W g (p * 2) (.int .i64 x.1)).trans (grown_one _ g (p * 2 + 1) (.slice A n c))
  have hgB := (h.own.own.lt g rfl).1
  exact {
    tlen := h.tlen, tmax := h.tmax, fit := h.fit, on := h.on, size := h.size
    tree := vrow_grown h.tree hgr (h.r1 g rfl)
    treeF := h.treeF
    own := h.own.set2 p ⟨x.1, x.2, A, n, c⟩ hp hr (fun _ ad hA e2 => by have := hf ad hA; simp only [Value.ownBlock, Option.some.injEq] at e2; omega)
    is := by rw [map_set_elG, h.is]; rfl
    mine := fun e he' => by
      rcases List.mem_or_eq_of_mem_set he' with h' | rfl
      · exact h.mine e h'
      · exact hf.mono hB0
    rows := xo_kept h.rows hgr (h.r2 g rfl) (h.r3 g rfl)
    isl := h.isl
    lie := h.lie
    at' := h.at'
    ours := h.ours.kept hgr (by
      cases hob : (Value.slice e0.A e0.n e0.c).ownBlock with
      | none => exact .inl rfl
      | some k => exact .inr (fun e => by injection e with e; exact h.t2 k hob (by rw [e]; rfl)))
    t1 := h.t1
    t2 := h.t2
    t3 := fun k hk e he' hne ad hA => by
      rcases List.mem_or_eq_of_mem_set he' with h' | rfl
      · exact h.t3 k hk e h' hne ad hA
      · have := hf ad hA; have := he k hk; omega
    t4 := h.t4
    t5 := h.t5
    r1 := h.r1
    r2 := h.r2
    r3 := h.r3
    s1 := h.s1
    s2 := fun k hk e he' hne ad hA => by
      rcases List.mem_or_eq_of_mem_set he' with h' | rfl
      · exact h.s2 k hk e h' hne ad hA
      · have := hf ad hA; have := hs k hk; omega
    up := Nat.le_trans h.up hgr.size }
/-- The row made longer, and told in its place. -/
theorem Ready.push {F : Nat → Prop} {B0 q g nt ct nr cr ns cs : Nat} {T R : Option Addr} {r : Jp.Rn} {es ls : List El} {e0 : El} {w0 W W' : World} (h : Ready B0 q ⟨T, nt, ct, R, nr, cr, some ⟨g, 0, none⟩, ns, cs⟩ r es ls e0 W) (h0 : w0.heap.size ≤ B0) {l : List Int} {A : Option Addr} {n c : Nat}
    (ho : W'.ownsRow B0 3 1 (.slice A n c) n ((e0.l ++ l).map (Value.int .i64))) (hgr : W.grownBy W' (Value.slice e0.A e0.n e0.c).ownBlock) (hat : (Value.slice A n c).ownBlock = (Value.slice e0.A e0.n e0.c).ownBlock ∨ (Value.slice A n c).ownBlock = some W.heap.size) :
    RM (More F w0) (W'.setCell ⟨g, q, none⟩ (.slice A n c)) ⟨T, nt, ct, R, nr, cr, some ⟨g, 0, none⟩, ns, cs⟩ (Jp.rowed r q (e0.l ++ l)) := by
  have hq := h.at'
  have hln : ls.length = ns := h.rows.len csL_len (by decide)
  have hqn : q < ns := by rw [← hln]; exact (List.getElem?_eq_some_iff.1 hq).1
  have hgl := h.rows.own.lt g rfl
  obtain ⟨A5, c5, e5, hrow, hfr⟩ := Row.of_own' ho
  injection e5 with e51 _ e52
  subst e51 e52
  -- behind the append
  have ne : ∀ {v : Value}, (∀ k, (Value.slice e0.A e0.n e0.c).ownBlock = some k → v.ownBlock ≠ some k) → v.ownBlock = none ∨ v.ownBlock ≠ (Value.slice e0.A e0.n e0.c).ownBlock := fun {v} hv => by
    cases hob : (Value.slice e0.A e0.n e0.c).ownBlock with
    | none =>
      cases hv' : v.ownBlock with
      | none => exact .inl rfl
      | some b => exact .inr (by simp)
    | some k => exact .inr (hv k hob)
  have rn : ∀ {e : El}, (∀ k, (Value.slice e0.A e0.n e0.c).ownBlock = some k → e.l ≠ [] → ∀ ad, e.A = some ad → ad.block ≠ k) → e.l ≠ [] → ∀ ad, e.A = some ad → (Value.slice e0.A e0.n e0.c).ownBlock ≠ some ad.block := fun {e} hv hne ad hA hk => hv _ hk hne ad hA rfl
  have hG : XO csG 2 54 B0 W' (.slice R nr cr) nr es := ⟨h.own.own.kept hgr (ne h.t2), fun e he => row_kept (h.own.rows e he) hgr (rn (fun k hk => h.t3 k hk e he)), h.own.apart⟩
  have hLo : W'.ownsRow B0 42 1 (.slice (some ⟨g, 0, none⟩) ns cs) ns (ls.flatMap csL) := h.rows.own.kept hgr (ne h.t4)
  have hTr : VRow W' W'.heap.size T r.tree := by
    intro i z hi
    obtain ⟨b, off, e, hb, hc, hd⟩ := h.tree i z hi
    have hne : (Value.slice e0.A e0.n e0.c).ownBlock ≠ some b := fun hk => h.t1 b hk _ e rfl
    exact ⟨b, off, e, Nat.lt_of_lt_of_le hb hgr.size, hgr.cell hc (fun e => hne e.symm), hgr.cell hd (fun e => hne e.symm)⟩
  -- the store
  have hAg : ∀ ad, A = some ad → ad.block ≠ g := fun ad hA => by
    have hfl : (Value.slice A n c).ownBlock = some ad.block := by rw [hA]; rfl
    rcases hat with e | e
    · rw [hfl] at e; exact fun e2 => h.t4 _ e.symm (by rw [e2]; rfl)
    · rw [hfl] at e; injection e with e; omega
  have hgo := grown_one W' g q (.slice A n c)
  have hG2 := xo_kept hG hgo (fun e => h.r2 _ e rfl) (h.s2 g rfl)
  have hT2 := vrow_grown hTr hgo (h.s1 g rfl)
  have hset : (ls.flatMap csL).set q (.slice A n c) = (ls.set q ⟨e0.x, e0.l ++ l, A, n, c⟩).flatMap csL := flat_set_one ls q ⟨e0.x, e0.l ++ l, A, n, c⟩ (List.getElem?_eq_some_iff.1 hq).1
  have hL2 : XO csL 1 42 B0 (W'.setCell ⟨g, q, none⟩ (.slice A n c)) (.slice (some ⟨g, 0, none⟩) ns cs) ns (ls.set q ⟨e0.x, e0.l ++ l, A, n, c⟩) := by
    refine ⟨by rw [← hset]; exact (hLo.stored q (.slice A n c)).1, fun e he => ?_, fun e he hne ad hA e2 => ?_⟩
    · obtain ⟨j, hj⟩ := List.mem_iff_getElem?.1 he
      rw [List.getElem?_set] at hj
      by_cases hjq : q = j
      · subst hjq
        rw [if_pos rfl, if_pos (List.getElem?_eq_some_iff.1 hq).1] at hj
        injection hj with hj
        subst hj
        exact row_kept hrow hgo (fun _ ad hA e2 => by injection e2 with e2; exact hAg ad hA e2.symm)
      · rw [if_neg hjq] at hj
        have h1 := row_kept (h.rows.rows e (List.mem_of_getElem? hj)) hgr (h.t5 j e (fun e => hjq e.symm) hj)
        exact row_kept h1 hgo (fun hne ad hA => h.rows.apart e (List.mem_of_getElem? hj) hne ad hA)
    · simp only [Value.ownBlock, Option.some.injEq] at e2
      rcases List.mem_or_eq_of_mem_set he with h' | rfl
      · exact h.rows.apart e h' hne ad hA (by rw [e2]; rfl)
      · exact hAg ad hA e2.symm
  obtain ⟨x1, f1⟩ := own_slice csG_len (by decide) hG2
  obtain ⟨x2, f2⟩ := own_slice csL_len (by decide) hL2
  refine ⟨h.tlen, h.tmax, h.fit, hT2, fun _ ad hA => .inr (by have := h.treeF ad hA; omega), ⟨es, x1, h.is.symm, fun _ ad hA => .inr (by have := f1 ad hA; omega), fun e he _ ad hA => .inr (by have := h.mine e he ad hA; omega)⟩, ⟨_, x2, by rw [map_set_elL, h.isl]; rfl, fun _ ad hA => .inr (by have := f2 ad hA; omega), fun e he _ ad hA => .inr ?_⟩, h.on, h.size⟩
  rcases List.mem_or_eq_of_mem_set he with h' | rfl
  · have := h.lie e h' ad hA; omega
  · have := hfr ad hA; omega
theorem may_tree {r : Jp.Rn} (h : Jp.May r) : r.tree ≠ [] := fun e => by
  have := h.tree
  rw [e] at this
  exact absurd this (by decide)
theorem Told.ns {B0 B1 B2 B3 : Nat} {d : Ad} {r : Jp.Rn} {es ls : List El} {W : World} (h : Told B0 B1 B2 B3 d r es ls W) : r.rows.length = d.ns ∧ ls.length = d.ns := by
  have h1 := h.rows.len csL_len (by decide)
  exact ⟨by rw [← h.isl, List.length_map, h1], h1⟩
theorem Told.nr {B0 B1 B2 B3 : Nat} {d : Ad} {r : Jp.Rn} {es ls : List El} {W : World} (h : Told B0 B1 B2 B3 d r es ls W) : r.rings.length = d.nr ∧ es.length = d.nr := by
  have h1 := h.own.len csG_len (by decide)
  exact ⟨by rw [← h.is, List.length_map, h1], h1⟩
theorem nobody {w : World} {b : Nat} (h : More (fun _ => False) w b) : w.heap.size ≤ b := h.resolve_left id
end Go.Proofs.YtdohnhdjlhaaaaaGreatDoor


/- steal.Victims, by its contract. -/
namespace Go.Proofs.YtdohnhdjlhaaaaaGreatDoor
open Go.RowKit
set_option linter.unusedVariables false

set_option maxRecDepth 100000 in
set_option maxHeartbeats 2000000 in
theorem stealVict_any {F : Nat → Prop} (d : Ad) (r : Jp.Rn) (p far : Int) (w : World) (h : RM F w d r) (hF : ∀ b, F b → b < w.heap.size) (hlow : Low r) (hp : In64 p) (hf : In64 far) (hT : Tab w) :
    Calls Tryz.prog 17 #[jv d r, .int .i64 p, .int .i64 far] w (MadeR w (Jp.victims r p far)) := by
  obtain ⟨A0, nt, ct, R, nr, cr, S, ns, cs⟩ := d
  have H := Lib.hid h
  have HL := Lib.hid hlow
  obtain ⟨hr1, hr2, hr3⟩ := h.nr
  simp only at hr1 hr2 hr3
  obtain ⟨V, hV, hX, hB⟩ := B5.start w (.slice A0 nt ct) (.int .i64 r.size) (.slice R nr cr) (.slice S ns cs) (.int .u64 (r.on : Nat)) 33
  have E := Lib.hid hV
  have X0 := Lib.hid hX
  have B0 := Lib.hid hB
  obtain ⟨Tb, hTb⟩ : ∃ Tb : Bool, (Tb = true ↔ Jp.May r) := by
    by_cases h : Jp.May r
    · exact ⟨true, by simp [h]⟩
    · exact ⟨false, by simp [h]⟩
  have HTB := Lib.hid hTb
  have hMY := runsMay_any ⟨A0, nt, ct, R, nr, cr, S, ns, cs⟩ r Tb V HTB (H.out.below B0.out) HL.out (hT.step B0.out)
  unfold jv at hMY
  simp only at hMY
  have MY := Lib.hid hMY
  have q0 := hX.c0
  have q1 := hX.c1
  have q2 := hX.c2
  have q3 := hX.c3
  have q4 := hX.c4
  clear hV hX hB hMY hTb h hlow hT hp hf hF
  unfold jv
  go_enter Tryz.func17, Tryz.ntmps17
  go_wp2_with (rw [← E.out])
  clear E
  refine MY.out.mono ?_
  rintro e w1 ⟨rfl, hb1⟩
  have X1 := Lib.hid (X0.out.step hb1)
  have B1 := Lib.hid (held_trans B0.out hb1)
  clear q0 q1 q2 q3 q4 MY X0 B0 hb1
  cases Tb
  · have HF := Lib.hid (show MadeR w (Jp.victims r p far) (.returned (.slice none 0 0)) w1 from by
      rw [Jp.victims_no (fun h => by have := HTB.out.2 h; cases this)]
      exact ⟨none, 0, 0, rfl, Row.nothing _, From.none _, B1.out⟩)
    go_wp2_with fail
    go_ret
    exact HF.out
  have HMAY := Lib.hid (HTB.out.1 rfl)
  have q0 := X1.out.c0
  have NE := Lib.hid (near_any A0 nt ct r.tree p w1 (Lib.hid H.out.tlen) H.out.tmax (Lib.hid H.out.fit) (H.out.below B1.out).tree)
  clear HTB
  go_wp2_with fail
  refine NE.out.mono ?_
  rintro e w2 ⟨An, cn, rfl, hin, hb2⟩
  have X2 := Lib.hid (X1.out.step hb2)
  have B2 := Lib.hid (held_trans B1.out hb2)
  have IN := Lib.hid hin
  obtain ⟨L, hL⟩ : ∃ L, L = (Dp.near r.tree p).length := ⟨_, rfl⟩
  have hL64 : L ≤ 192 := by have := near_le (p := p) HMAY.out; have := HL.out.rings; omega
  rw [← hL]
  have HLL := Lib.hid hL
  clear hin hb2 NE X1 B1 q0 hL
  go_wp2_with fail
  go_loopw [7, 18] (fun out i wr => ∃ j : Nat, j ≤ L ∧ i = .int .i64 j ∧ ∃ n o, o = out ∧ Hid (wr.ownsRow w2.heap.size 3 1 o n ((victTo r p far j).map (Value.int .i64))) ∧ Hid (Below w2.heap.size w2 wr)) (fun _ i _ => L - (intOf i).toNat)
  case atStart => exact ⟨0, Nat.zero_le _, rfl, 0, _, rfl, Lib.hid (World.ownsRow_nil _ _ _ _), Lib.hid (Below.refl _ _)⟩
  case round =>
    obtain ⟨j, hj, rfl, n, o, rfl, HO, HW⟩ := hrel
    by_cases hlt : j < L
    · obtain ⟨q, hq⟩ : ∃ q, (Dp.near r.tree p)[j]? = some q := ⟨_, List.getElem?_eq_getElem (by have := HLL.out; omega)⟩
      obtain ⟨b, off, eA, _, hqc⟩ := (IN.out.below HW.out) j q hq
      obtain ⟨k, rfl, hk⟩ := near_range HMAY.out hq
      obtain ⟨⟨x, t⟩, hx⟩ : ∃ x, r.rings[k]? = some x := ⟨_, List.getElem?_eq_getElem hk⟩
      have BW := Lib.hid (held_trans B2.out HW.out)
      obtain ⟨bR, oR, A, na, ca, hR, _, c0, c1, hrow⟩ := (H.out.below BW.out).ringAt hx
      simp only at hR hrow
      subst hR eA
      have hna : na ≤ 400 := by rw [← hrow.len]; exact HL.out.ring (x, t) (List.mem_of_getElem? hx)
      have AL := Lib.hid (all_any x A na ca t _ hrow (by omega))
      have HQ := Lib.hid hq
      have HXA := Lib.hid (Jp.ringAt_some hx)
      have i0 : (0 : Int) ≤ (j : Int) := by omega
      have i1 : (j : Int) < (L : Int) := by omega
      have i2 : (0 : Int) ≤ (k : Int) := by omega
      have i3 : (k : Int) < (nr : Int) := by omega
      have hnl : n ≤ 192 := by
        obtain ⟨_, _, e1, h2, _⟩ := Row.of_own' HO.out
        have := h2.len
        have := victTo_le r p far j
        omega
      have q2 := (X2.out.step HW.out).c2
      clear hq hx hrow
      go_wp2_with fail
      refine AL.out.mono ?_
      rintro e w3 ⟨A3, n3, c3, rfl, hr3', _, hb3⟩
      have hl3 := hr3'.len
      have HW3 := Lib.hid (HW.out.trans (hb3.mono HW.out.size))
      have HO3 := Lib.hid (own_below HO.out hb3)
      have BW3 := Lib.hid (held_trans BW.out hb3)
      have q0 := ((X2.out.step HW.out).step hb3).c0
      clear hr3' hb3 AL c0 c1 q2 HO HW hqc BW
      by_cases hz : n3 = 0
      · have hall : Rp.all (x, t) = [] := List.length_eq_zero_iff.1 (by omega)
        have l0 : ¬ (0 : Int) < (n3 : Int) := by omega
        have HV := Lib.hid (victTo_no (far := far) HQ.out (by unfold Jp.vict; rw [show ((k : Int).toNat) = k from rfl, HXA.out, hall]; rfl))
        have HO4 := Lib.hid (show w3.ownsRow w2.heap.size 3 1 o n ((victTo r p far (j + 1)).map (Value.int .i64)) by rw [HV.out]; exact HO3.out)
        clear hall hz hl3
        go_wp2_with fail
        go_roundw
        case rel => exact ⟨j + 1, by omega, by go_num, n, _, rfl, HO4, HW3⟩
        case measure => simp [intOf]; omega
      · have l0 : (0 : Int) < (n3 : Int) := by omega
        have hall : (Rp.all (x, t)).isEmpty = false := by cases e : Rp.all (x, t) with | nil => rw [e] at hl3; simp at hl3; omega | cons a l => rfl
        have FA := Lib.hid (far_any A0 nt ct r.tree p k w3 (Lib.hid H.out.tlen) H.out.tmax (Lib.hid H.out.fit) (H.out.below BW3.out).tree)
        clear hz hl3
        go_wp2_with fail
        refine FA.out.mono ?_
        rintro e w4 ⟨rfl, hb4⟩
        have HW4 := Lib.hid (HW3.out.trans (hb4.mono HW3.out.size))
        have HO4 := Lib.hid (own_below HO3.out hb4)
        clear hb4 FA q0 HW3 HO3 BW3
        by_cases hf : Dp.far r.tree p k ≤ far
        · have HV := Lib.hid (victTo_yes (far := far) HQ.out (by unfold Jp.vict; rw [show ((k : Int).toNat) = k from rfl, HXA.out, hall]; simp [hf]))
          have hbl := below_new w4 (.cells #[.int .i64 (k : Nat)] 3)
          have HW5 := Lib.hid (HW4.out.trans (hbl.mono HW4.out.size))
          have HO5 := Lib.hid (own_below HO4.out hbl)
          have RL := Lib.hid (row_at w4 (k : Nat) w4.heap.size rfl)
          clear hbl HW4 HO4 hall
          go_wp2_with (at_builtin; refine wpList_append_row rfl _ _ rfl w2.heap.size o n (victTo r p far j) rfl HO5.out (some ⟨w4.heap.size, 0, none⟩) 1 1 [(k : Int)] rfl RL.out (by omega) HW5.out.size ?_; intro v' w7 ho hgr; have HW7 := Lib.hid (HW5.out.grown hgr HW5.out.size (fun k hk => (HO5.out.lt k hk).1)); have HO7 := Lib.hid (show w7.ownsRow w2.heap.size 3 1 v' (n + 1) ((victTo r p far (j + 1)).map (Value.int .i64)) by rw [HV.out]; exact ho); clear ho hgr)
          go_roundw
          case rel => exact ⟨j + 1, by omega, by go_num, n + 1, _, rfl, HO7, HW7⟩
          case measure => simp [intOf]; omega
        · have HV := Lib.hid (victTo_no (far := far) HQ.out (by unfold Jp.vict; rw [show ((k : Int).toNat) = k from rfl, HXA.out, hall]; simp [hf]))
          have HO5 := Lib.hid (show w4.ownsRow w2.heap.size 3 1 o n ((victTo r p far (j + 1)).map (Value.int .i64)) by rw [HV.out]; exact HO4.out)
          clear hall
          go_wp2_with fail
          go_roundw
          case rel => exact ⟨j + 1, by omega, by go_num, n, _, rfl, HO5, HW4⟩
          case measure => simp [intOf]; omega
    · have l1 : ¬ (j : Int) < (L : Int) := by omega
      obtain ⟨Ao, co, rfl, hro, hfo⟩ := Row.of_own' HO.out
      have HF := Lib.hid (show MadeR w (Jp.victims r p far) (.returned (.slice Ao n co)) _ from ⟨Ao, n, co, rfl, by rw [← victTo_all HMAY.out, ← HLL.out, ← show j = L by omega]; exact hro, hfo.mono B2.out.size, held_trans B2.out HW.out⟩)
      clear hro hfo HO HW
      go_wp2_with fail
      go_ret
      exact HF.out
end Go.Proofs.YtdohnhdjlhaaaaaGreatDoor


/- Runs that are apart, in which a ring or a row is turned: what is left. -/
namespace Go.Proofs.YtdohnhdjlhaaaaaGreatDoor
open Go.RowKit
set_option linter.unusedVariables false

theorem Ready.rm {F : Nat → Prop} {B0 q : Nat} {d : Ad} {r : Jp.Rn} {es ls : List El} {e0 : El} {W w0 : World} (h : Ready B0 q d r es ls e0 W) (h0 : w0.heap.size ≤ B0) : RM (More F w0) W d r := by
  obtain ⟨x1, f1⟩ := own_slice csG_len (by decide) h.own
  obtain ⟨x2, f2⟩ := own_slice csL_len (by decide) h.rows
  exact ⟨h.tlen, h.tmax, h.fit, h.tree, fun _ ad hA => .inr (by have := h.treeF ad hA; omega), ⟨es, x1, h.is.symm, fun _ ad hA => .inr (by have := f1 ad hA; omega), fun e he _ ad hA => .inr (by have := h.mine e he ad hA; omega)⟩, ⟨ls, x2, h.isl.symm, fun _ ad hA => .inr (by have := f2 ad hA; omega), fun e he _ ad hA => .inr (by have := h.lie e he ad hA; omega)⟩, h.on, h.size⟩
/-- The row cut off, and told in its place. -/
theorem Ready.cut {F : Nat → Prop} {B0 q g nt ct nr cr ns cs : Nat} {T R : Option Addr} {r : Jp.Rn} {es ls : List El} {e0 : El} {w0 W : World} (h : Ready B0 q ⟨T, nt, ct, R, nr, cr, some ⟨g, 0, none⟩, ns, cs⟩ r es ls e0 W) (h0 : w0.heap.size ≤ B0) {l : List Int} {A : Option Addr} {n c : Nat}
    (hr : Row W A n c l) (hA : ∀ ad, A = some ad → ∃ ad0, e0.A = some ad0 ∧ ad.block = ad0.block) :
    RM (More F w0) (W.setCell ⟨g, q, none⟩ (.slice A n c)) ⟨T, nt, ct, R, nr, cr, some ⟨g, 0, none⟩, ns, cs⟩ (Jp.rowed r q l) := by
  have hq := h.at'
  have hln : ls.length = ns := h.rows.len csL_len (by decide)
  have hqn : q < ns := by rw [← hln]; exact (List.getElem?_eq_some_iff.1 hq).1
  have hAg : ∀ ad, A = some ad → ad.block ≠ g := fun ad hAa => by
    obtain ⟨ad0, h1, h2⟩ := hA ad hAa
    have hfl : (Value.slice e0.A e0.n e0.c).ownBlock = some ad0.block := by rw [h1]; rfl
    exact fun e => h.t4 _ hfl (by rw [← h2, e]; rfl)
  have hAl : ∀ ad, A = some ad → B0 ≤ ad.block := fun ad hAa => by
    obtain ⟨ad0, h1, h2⟩ := hA ad hAa
    have := h.lie e0 (List.mem_of_getElem? hq) ad0 h1
    omega
  have hgo := grown_one W g q (.slice A n c)
  have hG2 := xo_kept h.own hgo (fun e => h.r2 _ e rfl) (h.s2 g rfl)
  have hT2 := vrow_grown h.tree hgo (h.s1 g rfl)
  have hL2 := h.rows.set1 q ⟨e0.x, l, A, n, c⟩ hqn hr (fun _ ad hAa e2 => by simp only [Value.ownBlock, Option.some.injEq] at e2; exact hAg ad hAa e2.symm)
  obtain ⟨x1, f1⟩ := own_slice csG_len (by decide) hG2
  obtain ⟨x2, f2⟩ := own_slice csL_len (by decide) hL2
  refine ⟨h.tlen, h.tmax, h.fit, hT2, fun _ ad hA => .inr (by have := h.treeF ad hA; omega), ⟨es, x1, h.is.symm, fun _ ad hA => .inr (by have := f1 ad hA; omega), fun e he _ ad hA => .inr (by have := h.mine e he ad hA; omega)⟩, ⟨_, x2, by rw [map_set_elL, h.isl]; rfl, fun _ ad hA => .inr (by have := f2 ad hA; omega), fun e he _ ad hA => .inr ?_⟩, h.on, h.size⟩
  rcases List.mem_or_eq_of_mem_set he with h' | rfl
  · have := h.lie e h' ad hA; omega
  · have := hAl ad hA; omega
/-- What is written into one block alone, behind new memory. -/
structure Rg (g : Nat) (w w' : World) : Prop where
  box : ∀ b v0 v1 v2 v3 v4, b ≠ g → C5 w b v0 v1 v2 v3 v4 → C5 w' b v0 v1 v2 v3 v4
  held : ∀ B W, B ≤ g → B ≤ w.heap.size → Below B W w → Below B W w'
  cell : ∀ b i v, b ≠ g → w.cell? ⟨b, i, none⟩ = some v → w'.cell? ⟨b, i, none⟩ = some v
theorem Rg.below {g : Nat} {w w' : World} (hb : Below w.heap.size w w') : Rg g w w' :=
  ⟨fun _ _ _ _ _ _ _ h => h.step hb, fun _ _ _ h2 h => h.trans (hb.mono h2), fun _ _ _ _ h => keepcell hb h⟩
theorem Rg.set {g j : Nat} {w w' : World} {u : Value} (h : Rg g w w') : Rg g w (w'.setCell ⟨g, j, none⟩ u) :=
  ⟨fun b v0 v1 v2 v3 v4 hne hc => (h.box b v0 v1 v2 v3 v4 hne hc).far (fun e => hne e.symm), fun B W h1 h2 hb => (h.held B W h1 h2 hb).setCell h1 u, fun b i v hne hc => farcell hne (h.cell b i v hne hc)⟩
theorem Rg.of {g : Nat} {w w1 w2 : World} (hb : Below w.heap.size w w1) (h : Rg g w1 w2) : Rg g w w2 :=
  ⟨fun b v0 v1 v2 v3 v4 hne hc => h.box b v0 v1 v2 v3 v4 hne (hc.step hb), fun B W h1 h2 hb2 => h.held B W h1 (Nat.le_trans h2 hb.size) (hb2.trans (hb.mono h2)), fun b i v hne hc => h.cell b i v hne (keepcell hb hc)⟩
end Go.Proofs.YtdohnhdjlhaaaaaGreatDoor


/- What is written into some blocks alone; the half of a ring has room. -/
namespace Go.Proofs.YtdohnhdjlhaaaaaGreatDoor
open Go.RowKit
set_option linter.unusedVariables false

/-- Blocks of which P holds stay; so does all below B0. -/
structure Kp (P : Nat → Prop) (B0 : Nat) (w w' : World) : Prop where
  box : ∀ b v0 v1 v2 v3 v4, P b → C5 w b v0 v1 v2 v3 v4 → C5 w' b v0 v1 v2 v3 v4
  held : ∀ B W, B ≤ B0 → B ≤ w.heap.size → Below B W w → Below B W w'
  cell : ∀ b i v, P b → w.cell? ⟨b, i, none⟩ = some v → w'.cell? ⟨b, i, none⟩ = some v
  size : w.heap.size ≤ w'.heap.size
variable {P : Nat → Prop} {B0 g : Nat} {w w1 w2 : World}
theorem Kp.refl : Kp P B0 w w := ⟨fun _ _ _ _ _ _ _ h => h, fun _ _ _ _ h => h, fun _ _ _ _ h => h, Nat.le_refl _⟩
theorem Kp.step (h : Kp P B0 w w1) (hb : Below w1.heap.size w1 w2) : Kp P B0 w w2 :=
  ⟨fun b v0 v1 v2 v3 v4 hp hc => (h.box b v0 v1 v2 v3 v4 hp hc).step hb, fun B W h1 h2 hw => (h.held B W h1 h2 hw).trans (hb.mono (Nat.le_trans h2 h.size)), fun b i v hp hc => keepcell hb (h.cell b i v hp hc), Nat.le_trans h.size hb.size⟩
theorem Kp.set {j : Nat} {u : Value} (h : Kp P B0 w w1) (hg : B0 ≤ g) (hP : ¬ P g) : Kp P B0 w (w1.setCell ⟨g, j, none⟩ u) :=
  ⟨fun b v0 v1 v2 v3 v4 hp hc => (h.box b v0 v1 v2 v3 v4 hp hc).far (fun e => hP (by simp only at e; rw [e]; exact hp)), fun B W h1 h2 hw => (h.held B W h1 h2 hw).setCell (Nat.le_trans h1 hg) u, fun b i v hp hc => farcell (fun e => hP (by rw [← e]; exact hp)) (h.cell b i v hp hc), by have := h.size; simpa [World.setCell] using this⟩
theorem Kp.grown {row : Option Nat} (h : Kp P B0 w w1) (hg : w1.grownBy w2 row) (hr : ∀ k, row = some k → B0 ≤ k ∧ ¬ P k) : Kp P B0 w w2 :=
  ⟨fun b v0 v1 v2 v3 v4 hp hc => (h.box b v0 v1 v2 v3 v4 hp hc).grown hg (fun e => (hr b e.symm).2 hp), fun B W h1 h2 hw => (h.held B W h1 h2 hw).grown hg (Nat.le_trans h2 h.size) (fun k hk => Nat.le_trans h1 (hr k hk).1), fun b i v hp hc => hg.cell (h.cell b i v hp hc) (fun e => (hr b e.symm).2 hp), Nat.le_trans h.size hg.size⟩
theorem Kp.drew (h : Kp P B0 w w1) : Kp P B0 w w1.drew := h.step (below_of_drewN 0 (Below.refl _ _)).drew
theorem Kp.of (hb : Below w.heap.size w w1) (h : Kp P B0 w1 w2) : Kp P B0 w w2 :=
  ⟨fun b v0 v1 v2 v3 v4 hp hc => h.box b v0 v1 v2 v3 v4 hp (hc.step hb), fun B W h1 h2 hw => h.held B W h1 (Nat.le_trans h2 hb.size) (hw.trans (hb.mono h2)), fun b i v hp hc => h.cell b i v hp (keepcell hb hc), Nat.le_trans hb.size h.size⟩
end Go.Proofs.YtdohnhdjlhaaaaaGreatDoor

