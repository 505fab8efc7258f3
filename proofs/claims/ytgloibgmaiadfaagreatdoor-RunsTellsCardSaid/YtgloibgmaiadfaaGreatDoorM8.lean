/- Contracts and plain mathematics, put together by program (wip/merge.py) out of: JComes JReady JPush. -/
import Derived.Test.YtgloibgmaiadfaaGreatDoorJMayL
import Derived.Test.YtgloibgmaiadfaaGreatDoorJApartW
import Derived.Maps.AppendAt
/- runs.comes, by its contract: what is wrong with one that comes. -/
namespace Go.Proofs.YtgloibgmaiadfaaGreatDoor
open Go.RowKit
set_option linter.unusedVariables false

open Classical in
noncomputable def cmV (r : Jp.Rn) (p n g : Int) : Int := if ¬ Jp.May r ∨ p < 0 ∨ n ≤ p ∨ g < 1 then 1 else if Tp.has (Jp.all r) g = true then 5 else 0
theorem cmV_arg {r : Jp.Rn} {p n g : Int} (h : ¬ Jp.May r ∨ p < 0 ∨ n ≤ p ∨ g < 1) : cmV r p n g = 1 := by unfold cmV; rw [if_pos h]
theorem cmV_there {r : Jp.Rn} {p n g : Int} (h : ¬ (¬ Jp.May r ∨ p < 0 ∨ n ≤ p ∨ g < 1)) (h1 : Tp.has (Jp.all r) g = true) : cmV r p n g = 5 := by unfold cmV; rw [if_neg h, if_pos h1]
theorem cmV_ok {r : Jp.Rn} {p n g : Int} (h : ¬ (¬ Jp.May r ∨ p < 0 ∨ n ≤ p ∨ g < 1)) (h1 : Tp.has (Jp.all r) g = false) : cmV r p n g = 0 := by unfold cmV; rw [if_neg h, if_neg (by rw [h1]; decide)]
set_option maxRecDepth 100000 in
set_option maxHeartbeats 1000000 in
theorem comes_any {F : Nat → Prop} (d : Ad) (r : Jp.Rn) (p n g : Int) (w : World) (h : RM F w d r) (hlow : Low r) (hT : Tab w) :
    Calls Tryz.prog 22 #[jv d r, .int .i64 p, .int .i64 n, .int .i64 g] w fun e w' => e = .returned (.int .i64 (cmV r p n g)) ∧ Below w.heap.size w w' := by
  obtain ⟨A0, nt, ct, R, nr, cr, S, ns, cs⟩ := d
  have H := Lib.hid h
  have HL := Lib.hid hlow
  obtain ⟨V, hV, hX, hB⟩ := B5.start w (.slice A0 nt ct) (.int .i64 r.size) (.slice R nr cr) (.slice S ns cs) (.int .u64 (r.on : Nat)) 33
  have E := Lib.hid hV
  have X0 := Lib.hid hX
  have B0 := Lib.hid hB
  have hMY := fun T HT => runsMay_any ⟨A0, nt, ct, R, nr, cr, S, ns, cs⟩ r T V HT (h.below hB) hlow (hT.step hB)
  unfold jv at hMY
  simp only at hMY
  have MY := Lib.hid hMY
  have d0 := hX.c0
  have d1 := hX.c1
  have d2 := hX.c2
  have d3 := hX.c3
  have d4 := hX.c4
  clear hV hX hB hMY h hlow hT
  unfold jv
  go_enter Tryz.func22, Tryz.ntmps22
  go_wp2_with (rw [← E.out])
  clear E
  by_cases hM : ¬ Jp.May r
  · refine (MY.out false (Lib.hid (by simp [hM]))).mono ?_
    rintro e w1 ⟨rfl, hb1⟩
    have B1 := Lib.hid (held_trans B0.out hb1)
    have HP := Lib.hid (cmV_arg (r := r) (p := p) (n := n) (g := g) (.inl hM))
    clear hM
    go_wp2_with fail
    go_ret
    exact ⟨ret_int ((HP.out)).symm, (B1).out⟩
  have hM := Classical.not_not.1 hM
  refine (MY.out true (Lib.hid (by simp [hM]))).mono ?_
  rintro e w1 ⟨rfl, hb1⟩
  have X1 := Lib.hid (X0.out.step hb1)
  have B1 := Lib.hid (held_trans B0.out hb1)
  have HMM := Lib.hid hM
  clear hb1 X0 B0 MY hM d0 d1 d2 d3 d4
  by_cases n0 : p < 0
  · have HP := Lib.hid (cmV_arg (r := r) (p := p) (n := n) (g := g) (.inr (.inl n0)))
    go_wp2_with fail
    go_ret
    exact ⟨ret_int ((HP.out)).symm, (B1).out⟩
  have n0' : 0 ≤ p := by omega
  by_cases n1 : n ≤ p
  · have HP := Lib.hid (cmV_arg (r := r) (p := p) (n := n) (g := g) (.inr (.inr (.inl n1))))
    go_wp2_with fail
    go_ret
    exact ⟨ret_int ((HP.out)).symm, (B1).out⟩
  have n1' : p < n := by omega
  by_cases l1 : g < 1
  · have HP := Lib.hid (cmV_arg (r := r) (p := p) (n := n) (g := g) (.inr (.inr (.inr l1))))
    go_wp2_with fail
    go_ret
    exact ⟨ret_int ((HP.out)).symm, (B1).out⟩
  have l1' : 1 ≤ g := by omega
  have HNA := Lib.hid (show ¬ (¬ Jp.May r ∨ p < 0 ∨ n ≤ p ∨ g < 1) from fun h => by
    rcases h with h | h | h | h
    · exact h HMM.out
    · exact n0 h
    · exact n1 h
    · exact l1 h)
  have hAL := runsAll_any ⟨A0, nt, ct, R, nr, cr, S, ns, cs⟩ r w1 (H.out.below B1.out) HL.out
  unfold jv at hAL
  simp only at hAL
  have AL := Lib.hid hAL
  have q0 := X1.out.c0
  have q1 := X1.out.c1
  have q2 := X1.out.c2
  have q3 := X1.out.c3
  have q4 := X1.out.c4
  clear hAL n0 n1 l1
  go_wp2_with fail
  refine AL.out.mono ?_
  rintro e w2 ⟨A2, n2, c2, rfl, hr2', _, hb2⟩
  have HN := Lib.hid (contains_any A2 n2 c2 (Jp.all r) g w2 hr2')
  have B2 := Lib.hid (held_trans B1.out hb2)
  clear hr2' hb2 AL q0 q1 q2 q3 q4
  go_wp2_with fail
  refine HN.out.mono ?_
  rintro e w3 ⟨rfl, rfl⟩
  cases hh : Tp.has (Jp.all r) g
  · have HP := Lib.hid (cmV_ok HNA.out hh)
    clear HN hh
    go_wp2_with fail
    go_ret
    exact ⟨ret_int ((HP.out)).symm, (B2).out⟩
  · have HP := Lib.hid (cmV_there HNA.out hh)
    clear HN hh
    go_wp2_with fail
    go_ret
    exact ⟨ret_int ((HP.out)).symm, (B2).out⟩
end Go.Proofs.YtgloibgmaiadfaaGreatDoor


/- A row of Runs that are told, made longer: an append, and what else stands. -/
namespace Go.Proofs.YtgloibgmaiadfaaGreatDoor
open Go.RowKit
set_option linter.unusedVariables false

theorem run_append_rowat (w : World) (ty : TypeId) (base : Nat) (v : Value) (n : Nat) (xs : List Int) (hown : w.ownsRow base 3 1 v n (xs.map (Value.int .i64)))
    (A : Option Addr) (m c : Nat) (zs : List Int) (h : Row w A m c zs) (hb : n + m ≤ 1000000) (hbase : base ≤ w.heap.size) :
    ∃ v' w', (Builtin.append_ #[47, 47] ty #[v, .slice A m c]).run Tryz.prog w = .ok v' w' ∧ w'.ownsRow base 3 1 v' (n + m) ((xs ++ zs).map (Value.int .i64)) ∧ w.grownBy w' v.ownBlock ∧ (v'.ownBlock = v.ownBlock ∨ v'.ownBlock = some w.heap.size) := by
  obtain ⟨i0, hi, hz0, hz1, hz2⟩ := info_parts info_int
  have hl := h.len
  cases A with
  | none =>
    have hc := h.nil rfl
    have h2 := h.cap
    subst hc
    have hm : m = 0 := by omega
    subst hm
    have hv : zs = [] := List.length_eq_zero_iff.1 hl
    subst hv
    exact ⟨v, w, run_append_owned_none (P := Tryz.prog) w base 47 ty 3 i0 1 Tryz.underlying47 hi v n _ hown, by rw [List.append_nil, Nat.add_zero]; exact hown, World.grownBy.refl w _, .inl rfl⟩
  | some ad =>
    have hcells : ∀ j u, (zs.map (Value.int .i64))[j]? = some u → w.cell? (ad.add j) = some u := by
      cases zs with
      | nil => intro j u hj; simp at hj
      | cons y ys =>
        obtain ⟨b, off, e, _⟩ := h.row 0 y rfl
        injection e with e
        subst e
        exact h.icells
    obtain ⟨v', w', h1, h2, h3, _, h5⟩ := run_append_own_at (P := Tryz.prog) w base 47 ty 3 i0 _ 1 8 Tryz.underlying47 hi hz0 hz1 hz2 rfl (by decide) v n _ hown ad m c _ (by rw [List.length_map, hl]; omega) hcells (icells_one zs) (by unfold maxLen; omega) (by omega) hbase
    exact ⟨v', w', h1, by rw [List.map_append]; exact h2, h3, h5⟩
theorem step_append_rowat {w : World} {ops : Array Oper} {o : Oper} {a : Act} {K : Act → World → Prop} {Q : Exit → Act → World → Prop} {E : Prop} (hgd : o.guard = none) (s x : Operand)
    (ho : o.op = .call { callee := .builtin .append, args := #[s, x], argTypes := #[47, 47] })
    (base : Nat) (v : Value) (n : Nat) (xs : List Int) (hs : a.eval s = v) (hown : w.ownsRow base 3 1 v n (xs.map (Value.int .i64)))
    (A : Option Addr) (m c : Nat) (zs : List Int) (hx : a.eval x = .slice A m c) (h : Row w A m c zs) (hb : n + m ≤ 1000000) (hbase : base ≤ w.heap.size)
    (hK : ∀ v' w', w'.ownsRow base 3 1 v' (n + m) ((xs ++ zs).map (Value.int .i64)) → w.grownBy w' v.ownBlock → (v'.ownBlock = v.ownBlock ∨ v'.ownBlock = some w.heap.size) → K (a.put o.dst v') w') :
    if Region.wanted o (yielded ops a.tmps) = true then Oper.wp Tryz.prog o a w K Q else E := by
  obtain ⟨v', w', hr, h2, h3, h4⟩ := run_append_rowat w o.type base v n xs hown A m c zs h hb hbase
  have hw : Region.wanted o (yielded ops a.tmps) = true := by simp [Region.wanted, hgd]
  rw [if_pos hw]
  unfold Oper.wp
  simp [execOp, ho, resolve, invoke, builtin, hs, hx, hr, Result.andThen]
  exact hK v' w' h2 h3 h4
/-- Runs in memory whose row q is the call's own, apart from all else. -/
structure Ready (B0 q : Nat) (d : Ad) (r : Jp.Rn) (es ls : List El) (e0 : El) (W : World) : Prop where
  tlen : r.tree.length = d.nt
  tmax : d.nt ≤ 9223372036854775807
  fit : Fit r.tree
  on : r.on < 18446744073709551616
  size : In64 r.size
  tree : VRow W W.heap.size d.T r.tree
  treeF : From B0 d.T
  own : XO csG 2 55 B0 W (.slice d.R d.nr d.cr) d.nr es
  is : es.map elG = r.rings
  mine : ∀ e ∈ es, From B0 e.A
  rows : XO csL 1 47 B0 W (.slice d.S d.ns d.cs) d.ns ls
  isl : ls.map elL = r.rows
  lie : ∀ e ∈ ls, From B0 e.A
  at' : ls[q]? = some e0
  ours : W.ownsRow B0 3 1 (.slice e0.A e0.n e0.c) e0.n (e0.l.map (Value.int .i64))
  t1 : ∀ g, (Value.slice e0.A e0.n e0.c).ownBlock = some g → ∀ ad, d.T = some ad → ad.block ≠ g
  t2 : ∀ g, (Value.slice e0.A e0.n e0.c).ownBlock = some g → (Value.slice d.R d.nr d.cr).ownBlock ≠ some g
  t3 : ∀ g, (Value.slice e0.A e0.n e0.c).ownBlock = some g → ∀ e ∈ es, e.l ≠ [] → ∀ ad, e.A = some ad → ad.block ≠ g
  t4 : ∀ g, (Value.slice e0.A e0.n e0.c).ownBlock = some g → (Value.slice d.S d.ns d.cs).ownBlock ≠ some g
  t5 : ∀ (j : Nat) (f : El), j ≠ q → ls[j]? = some f → Apart (.slice e0.A e0.n e0.c) f
  r1 : ∀ g, (Value.slice d.R d.nr d.cr).ownBlock = some g → ∀ ad, d.T = some ad → ad.block ≠ g
  r2 : ∀ g, (Value.slice d.R d.nr d.cr).ownBlock = some g → (Value.slice d.S d.ns d.cs).ownBlock ≠ some g
  r3 : ∀ g, (Value.slice d.R d.nr d.cr).ownBlock = some g → ∀ e ∈ ls, e.l ≠ [] → ∀ ad, e.A = some ad → ad.block ≠ g
  s1 : ∀ g, (Value.slice d.S d.ns d.cs).ownBlock = some g → ∀ ad, d.T = some ad → ad.block ≠ g
  s2 : ∀ g, (Value.slice d.S d.ns d.cs).ownBlock = some g → ∀ e ∈ es, e.l ≠ [] → ∀ ad, e.A = some ad → ad.block ≠ g
  up : B0 ≤ W.heap.size
theorem xo_base {cs : El → List Value} {sz : Nat} {ty : TypeId} {b1 b2 n : Nat} {w : World} {v : Value} {es : List El} (h : XO cs sz ty b1 w v n es) (hb : b2 ≤ b1) : XO cs sz ty b2 w v n es := ⟨zown_base' h.own hb, h.rows, h.apart⟩
/-- A tree's block lies below B1. -/
theorem tree_lt {W : World} {B : Nat} {A : Option Addr} {vs : List (Int × Int)} (h : VRow W B A vs) (hne : vs ≠ []) : ∀ ad, A = some ad → ad.block < B := by
  intro ad hA
  obtain ⟨x0, hx0⟩ : ∃ x, vs[0]? = some x := ⟨_, List.getElem?_eq_getElem (List.length_pos_iff.2 hne)⟩
  obtain ⟨b, off, e5, hb, _⟩ := h 0 x0 hx0
  rw [hA] at e5
  injection e5 with e5
  subst e5
  exact hb
theorem Told.ready {B0 B1 B2 B3 : Nat} {d : Ad} {r : Jp.Rn} {es ls : List El} {W : World} (h : Told B0 B1 B2 B3 d r es ls W) (hne : r.tree ≠ []) {q : Nat} {e0 : El} (hq : ls[q]? = some e0) : Ready B0 q d r es ls e0 W := by
  have h01 := h.o01
  have h12 := h.o12
  have h23 := h.o23
  have hup := h.up
  have hT := tree_lt h.tree hne
  have rf : ∀ (i : Nat) e, ls[i]? = some e → From B3 e.A := fun i e hi => by
    obtain ⟨_, _, e1, _, h3⟩ := Row.of_own' (h.ours i e hi)
    injection e1 with e1
    subst e1
    exact h3
  have rf' : ∀ e ∈ ls, From B3 e.A := fun e he => by obtain ⟨i, hi⟩ := List.mem_iff_getElem?.1 he; exact rf i e hi
  have hg0 : ∀ g, (Value.slice e0.A e0.n e0.c).ownBlock = some g → B3 ≤ g := fun g hg => ((h.ours q e0 hq).lt g hg).1
  exact {
    tlen := h.tlen, tmax := h.tmax, fit := h.fit, on := h.on, size := h.size
    tree := h.tree.more (by omega)
    treeF := h.treeF
    own := xo_base h.own h01
    is := h.is
    mine := fun e he => (h.mine e he).mono h01
    rows := xo_base h.rows (by omega)
    isl := h.isl
    lie := fun e he => (rf' e he).mono (by omega)
    at' := hq
    ours := zown_base' (h.ours q e0 hq) (by omega)
    t1 := fun g hg ad hA => by have := hg0 g hg; have := hT ad hA; omega
    t2 := fun g hg e => by have := hg0 g hg; have := h.gl g e; omega
    t3 := fun g hg e he hne ad hA => by have := hg0 g hg; have := h.gr e he hne ad hA; omega
    t4 := fun g hg e => by have := hg0 g hg; have := h.ll g e; omega
    t5 := fun j f hj hf => h.far q j e0 f (fun e => hj e.symm) hq hf
    r1 := fun g hg ad hA => by have := (h.own.own.lt g hg).1; have := hT ad hA; omega
    r2 := fun g hg e => by have := h.gl g hg; have := (h.rows.own.lt g e).1; omega
    r3 := fun g hg e he hne ad hA => by have := h.gl g hg; have := rf' e he ad hA; omega
    s1 := fun g hg ad hA => by have := (h.rows.own.lt g hg).1; have := hT ad hA; omega
    s2 := fun g hg e he hne ad hA => by have := (h.rows.own.lt g hg).1; have := h.gr e he hne ad hA; omega
    up := by omega }
theorem Ready.step {B0 q : Nat} {d : Ad} {r : Jp.Rn} {es ls : List El} {e0 : El} {W W' : World} (h : Ready B0 q d r es ls e0 W) (hb : Below W.heap.size W W') : Ready B0 q d r es ls e0 W' :=
  { h with
    tree := (h.tree.below hb).more hb.size
    own := h.own.step hb
    rows := h.rows.step hb
    ours := own_below h.ours hb
    up := Nat.le_trans h.up hb.size }
theorem vrow_set {W : World} {X j : Nat} {A : Option Addr} {vs : List (Int × Int)} {u : Value} (h : VRow W W.heap.size A vs) (ha : ∀ ad, A = some ad → ad.block ≠ X) : VRow (W.setCell ⟨X, j, none⟩ u) (W.setCell ⟨X, j, none⟩ u).heap.size A vs := vrow_farj h (fun _ => ha)
theorem xo_kept {cs : El → List Value} {sz : Nat} {ty : TypeId} {base n g : Nat} {W W' : World} {v : Value} {es : List El} (h : XO cs sz ty base W v n es) (hg : W.grownBy W' (some g)) (hv : v.ownBlock ≠ some g) (hr : ∀ e ∈ es, e.l ≠ [] → ∀ ad, e.A = some ad → ad.block ≠ g) : XO cs sz ty base W' v n es :=
  ⟨h.own.kept hg (.inr hv), fun e he => row_kept (h.rows e he) hg (fun hne ad hA e2 => by injection e2 with e2; exact hr e he hne ad hA e2.symm), h.apart⟩
theorem map_set_elG (es : List El) (p : Nat) (e : El) : (es.set p e).map elG = (es.map elG).set p (elG e) := List.map_set
theorem map_set_elL (es : List El) (p : Nat) (e : El) : (es.set p e).map elL = (es.map elL).set p (elL e) := List.map_set
theorem vrow_grown {W W' : World} {g : Nat} {A : Option Addr} {vs : List (Int × Int)} (h : VRow W W.heap.size A vs) (hg : W.grownBy W' (some g)) (ha : ∀ ad, A = some ad → ad.block ≠ g) : VRow W' W'.heap.size A vs := by
  intro i z hi
  obtain ⟨b, off, e, hb, hc, hd⟩ := h i z hi
  have hne := ha _ e
  simp only at hne
  exact ⟨b, off, e, Nat.lt_of_lt_of_le hb hg.size, hg.cell hc (fun e => by injection e with e; exact hne e), hg.cell hd (fun e => by injection e with e; exact hne e)⟩
/-- A ring turned. -/
theorem Ready.ring {B0 B q p g nt ct nr cr ns cs : Nat} {T S : Option Addr} {r : Jp.Rn} {es ls : List El} {e0 : El} {W : World} (h : Ready B0 q ⟨T, nt, ct, some ⟨g, 0, none⟩, nr, cr, S, ns, cs⟩ r es ls e0 W) (hp : p < nr) {x : Int × List Int} {A : Option Addr} {n c : Nat}
    (hr : Row W A n c x.2) (hf : From B A) (hB0 : B0 ≤ B) (hg : g < B) (he : ∀ k, (Value.slice e0.A e0.n e0.c).ownBlock = some k → k < B) (hs : ∀ k, (Value.slice S ns cs).ownBlock = some k → k < B) :
    Ready B0 q ⟨T, nt, ct, some ⟨g, 0, none⟩, nr, cr, S, ns, cs⟩ (Jp.ringed r p x) (es.set p ⟨x.1, x.2, A, n, c⟩) ls e0 ((W.setCell ⟨g, p * 2, none⟩ (.int .i64 x.1)).setCell ⟨g, p * 2 + 1, none⟩ (.slice A n c)) := by
  have hgr := (grown_one W g (p * 2) (.int .i64 x.1)).trans (grown_one _ g (p * 2 + 1) (.slice A n c))
  have hgB := (h.own.own.lt g rfl).1
  exact {
    tlen := h.tlen, tmax := h.tmax, fit := h.fit, on := h.on, size := h.size
    tree := vrow_grown h.tree hgr (h.r1 g rfl)
    treeF := h.treeF
    own := h.own.set2 p ⟨x.1, x.2, A, n, c⟩ hp hr (fun _ ad hA e2 => by have := hf ad hA; simp only [Value.ownBlock, Option.some.injEq] at e2; omega)
    is := by rw [map_set_elG, h.is]; rfl
    mine := fun e he' => by
      rcases List.mem_or_eq_of_mem_set he' with h' | rfl
      · exact h.mine e h'
      · exact hf.mono hB0
    rows := xo_kept h.rows hgr (h.r2 g rfl) (h.r3 g rfl)
    isl := h.isl
    lie := h.lie
    at' := h.at'
    ours := h.ours.kept hgr (by
      cases hob : (Value.slice e0.A e0.n e0.c).ownBlock with
      | none => exact .inl rfl
      | some k => exact .inr (fun e => by injection e with e; exact h.t2 k hob (by rw [e]; rfl)))
    t1 := h.t1
    t2 := h.t2
    t3 := fun k hk e he' hne ad hA => by
      rcases List.mem_or_eq_of_mem_set he' with h' | rfl
      · exact h.t3 k hk e h' hne ad hA
      · have := hf ad hA; have := he k hk; omega
    t4 := h.t4
    t5 := h.t5
    r1 := h.r1
    r2 := h.r2
    r3 := h.r3
    s1 := h.s1
    s2 := fun k hk e he' hne ad hA => by
      rcases List.mem_or_eq_of_mem_set he' with h' | rfl
      · exact h.s2 k hk e h' hne ad hA
      · have := hf ad hA; have := hs k hk; omega
    up := Nat.le_trans h.up hgr.size }
/-- The row made longer, and told in its place. -/
theorem Ready.push {F : Nat → Prop} {B0 q g nt ct nr cr ns cs : Nat} {T R : Option Addr} {r : Jp.Rn} {es ls : List El} {e0 : El} {w0 W W' : World} (h : Ready B0 q ⟨T, nt, ct, R, nr, cr, some ⟨g, 0, none⟩, ns, cs⟩ r es ls e0 W) (h0 : w0.heap.size ≤ B0) {l : List Int} {A : Option Addr} {n c : Nat}
    (ho : W'.ownsRow B0 3 1 (.slice A n c) n ((e0.l ++ l).map (Value.int .i64))) (hgr : W.grownBy W' (Value.slice e0.A e0.n e0.c).ownBlock) (hat : (Value.slice A n c).ownBlock = (Value.slice e0.A e0.n e0.c).ownBlock ∨ (Value.slice A n c).ownBlock = some W.heap.size) :
    RM (More F w0) (W'.setCell ⟨g, q, none⟩ (.slice A n c)) ⟨T, nt, ct, R, nr, cr, some ⟨g, 0, none⟩, ns, cs⟩ (Jp.rowed r q (e0.l ++ l)) := by
  have hq := h.at'
  have hln : ls.length = ns := h.rows.len csL_len (by decide)
  have hqn : q < ns := by rw [← hln]; exact (List.getElem?_eq_some_iff.1 hq).1
  have hgl := h.rows.own.lt g rfl
  obtain ⟨A5, c5, e5, hrow, hfr⟩ := Row.of_own' ho
  injection e5 with e51 _ e52
  subst e51 e52
  -- behind the append
  have ne : ∀ {v : Value}, (∀ k, (Value.slice e0.A e0.n e0.c).ownBlock = some k → v.ownBlock ≠ some k) → v.ownBlock = none ∨ v.ownBlock ≠ (Value.slice e0.A e0.n e0.c).ownBlock := fun {v} hv => by
    cases hob : (Value.slice e0.A e0.n e0.c).ownBlock with
    | none =>
      cases hv' : v.ownBlock with
      | none => exact .inl rfl
      | some b => exact .inr (by simp)
    | some k => exact .inr (hv k hob)
  have rn : ∀ {e : El}, (∀ k, (Value.slice e0.A e0.n e0.c).ownBlock = some k → e.l ≠ [] → ∀ ad, e.A = some ad → ad.block ≠ k) → e.l ≠ [] → ∀ ad, e.A = some ad → (Value.slice e0.A e0.n e0.c).ownBlock ≠ some ad.block := fun {e} hv hne ad hA hk => hv _ hk hne ad hA rfl
  have hG : XO csG 2 55 B0 W' (.slice R nr cr) nr es := ⟨h.own.own.kept hgr (ne h.t2), fun e he => row_kept (h.own.rows e he) hgr (rn (fun k hk => h.t3 k hk e he)), h.own.apart⟩
  have hLo : W'.ownsRow B0 47 1 (.slice (some ⟨g, 0, none⟩) ns cs) ns (ls.flatMap csL) := h.rows.own.kept hgr (ne h.t4)
  have hTr : VRow W' W'.heap.size T r.tree := by
    intro i z hi
    obtain ⟨b, off, e, hb, hc, hd⟩ := h.tree i z hi
    have hne : (Value.slice e0.A e0.n e0.c).ownBlock ≠ some b := fun hk => h.t1 b hk _ e rfl
    exact ⟨b, off, e, Nat.lt_of_lt_of_le hb hgr.size, hgr.cell hc (fun e => hne e.symm), hgr.cell hd (fun e => hne e.symm)⟩
  -- the store
  have hAg : ∀ ad, A = some ad → ad.block ≠ g := fun ad hA => by
    have hfl : (Value.slice A n c).ownBlock = some ad.block := by rw [hA]; rfl
    rcases hat with e | e
    · rw [hfl] at e; exact fun e2 => h.t4 _ e.symm (by rw [e2]; rfl)
    · rw [hfl] at e; injection e with e; omega
  have hgo := grown_one W' g q (.slice A n c)
  have hG2 := xo_kept hG hgo (fun e => h.r2 _ e rfl) (h.s2 g rfl)
  have hT2 := vrow_grown hTr hgo (h.s1 g rfl)
  have hset : (ls.flatMap csL).set q (.slice A n c) = (ls.set q ⟨e0.x, e0.l ++ l, A, n, c⟩).flatMap csL := flat_set_one ls q ⟨e0.x, e0.l ++ l, A, n, c⟩ (List.getElem?_eq_some_iff.1 hq).1
  have hL2 : XO csL 1 47 B0 (W'.setCell ⟨g, q, none⟩ (.slice A n c)) (.slice (some ⟨g, 0, none⟩) ns cs) ns (ls.set q ⟨e0.x, e0.l ++ l, A, n, c⟩) := by
    refine ⟨by rw [← hset]; exact (hLo.stored q (.slice A n c)).1, fun e he => ?_, fun e he hne ad hA e2 => ?_⟩
    · obtain ⟨j, hj⟩ := List.mem_iff_getElem?.1 he
      rw [List.getElem?_set] at hj
      by_cases hjq : q = j
      · subst hjq
        rw [if_pos rfl, if_pos (List.getElem?_eq_some_iff.1 hq).1] at hj
        injection hj with hj
        subst hj
        exact row_kept hrow hgo (fun _ ad hA e2 => by injection e2 with e2; exact hAg ad hA e2.symm)
      · rw [if_neg hjq] at hj
        have h1 := row_kept (h.rows.rows e (List.mem_of_getElem? hj)) hgr (h.t5 j e (fun e => hjq e.symm) hj)
        exact row_kept h1 hgo (fun hne ad hA => h.rows.apart e (List.mem_of_getElem? hj) hne ad hA)
    · simp only [Value.ownBlock, Option.some.injEq] at e2
      rcases List.mem_or_eq_of_mem_set he with h' | rfl
      · exact h.rows.apart e h' hne ad hA (by rw [e2]; rfl)
      · exact hAg ad hA e2.symm
  obtain ⟨x1, f1⟩ := own_slice csG_len (by decide) hG2
  obtain ⟨x2, f2⟩ := own_slice csL_len (by decide) hL2
  refine ⟨h.tlen, h.tmax, h.fit, hT2, fun _ ad hA => .inr (by have := h.treeF ad hA; omega), ⟨es, x1, h.is.symm, fun _ ad hA => .inr (by have := f1 ad hA; omega), fun e he _ ad hA => .inr (by have := h.mine e he ad hA; omega)⟩, ⟨_, x2, by rw [map_set_elL, h.isl]; rfl, fun _ ad hA => .inr (by have := f2 ad hA; omega), fun e he _ ad hA => .inr ?_⟩, h.on, h.size⟩
  rcases List.mem_or_eq_of_mem_set he with h' | rfl
  · have := h.lie e h' ad hA; omega
  · have := hfr ad hA; omega
end Go.Proofs.YtgloibgmaiadfaaGreatDoor


/- runs.Push, by its contract. -/
namespace Go.Proofs.YtgloibgmaiadfaaGreatDoor
open Go.RowKit
set_option linter.unusedVariables false

theorem may_tree {r : Jp.Rn} (h : Jp.May r) : r.tree ≠ [] := fun e => by
  have := h.tree
  rw [e] at this
  exact absurd this (by decide)
theorem Told.ns {B0 B1 B2 B3 : Nat} {d : Ad} {r : Jp.Rn} {es ls : List El} {W : World} (h : Told B0 B1 B2 B3 d r es ls W) : r.rows.length = d.ns ∧ ls.length = d.ns := by
  have h1 := h.rows.len csL_len (by decide)
  exact ⟨by rw [← h.isl, List.length_map, h1], h1⟩
theorem Told.nr {B0 B1 B2 B3 : Nat} {d : Ad} {r : Jp.Rn} {es ls : List El} {W : World} (h : Told B0 B1 B2 B3 d r es ls W) : r.rings.length = d.nr ∧ es.length = d.nr := by
  have h1 := h.own.len csG_len (by decide)
  exact ⟨by rw [← h.is, List.length_map, h1], h1⟩
theorem nobody {w : World} {b : Nat} (h : More (fun _ => False) w b) : w.heap.size ≤ b := h.resolve_left id
/-- What is told where it fails: the same Runs, apart. -/
theorem tell_no {F : Nat → Prop} {w V W : World} {B1 B2 B3 Z : Nat} {d : Ad} {r : Jp.Rn} {es ls : List El} {e : Int} {p : Jp.Rn × Int} (hp : p = (r, e)) (h : Told (V.heap.size + 2) B1 B2 B3 d r es ls W) (hV : w.heap.size ≤ V.heap.size) (hZ : Z < V.heap.size) (hZw : w.heap.size ≤ Z) (hb : Below w.heap.size w W) (u0 u1 u2 u3 u4 : Value) :
    TellJE F w p (.returned (.tuple #[jv d r, .int .i64 e])) (put5 W Z u0 u1 u2 u3 u4) := by
  have h1 := (h.rm (F := fun _ => False) (w0 := V) (by omega)).put (X := Z) (fun h => by have := nobody h; omega) u0 u1 u2 u3 u4
  exact TellJE.is hp (h1.mono (fun b hb => .inr (by have := nobody hb; omega))) (below_put hb hZw u0 u1 u2 u3 u4)
theorem tell_yes {F : Nat → Prop} {w V W : World} {Z : Nat} {d : Ad} {r : Jp.Rn} {e : Int} {p : Jp.Rn × Int} (hp : p = (r, e)) (h : RM (More (fun _ => False) V) W d r) (hV : w.heap.size ≤ V.heap.size) (hZ : Z < V.heap.size) (hZw : w.heap.size ≤ Z) (hb : Below w.heap.size w W) (u0 u1 u2 u3 u4 : Value) :
    TellJE F w p (.returned (.tuple #[jv d r, .int .i64 e])) (put5 W Z u0 u1 u2 u3 u4) := by
  have h1 := h.put (X := Z) (fun h => by have := nobody h; omega) u0 u1 u2 u3 u4
  exact TellJE.is hp (h1.mono (fun b hb => .inr (by have := nobody hb; omega))) (below_put hb hZw u0 u1 u2 u3 u4)
set_option maxRecDepth 100000 in
set_option maxHeartbeats 2000000 in
theorem runsPush_any {F : Nat → Prop} (d : Ad) (r : Jp.Rn) (n g : Int) (w : World) (h : RM F w d r) (hF : ∀ b, F b → b < w.heap.size) (hlow : Low r) (hn : In64 n) (hg : In64 g) (hT : Tab w) :
    Calls Tryz.prog 9 #[jv d r, .int .i64 n, .int .i64 g] w (TellJE F w (Jp.push r n g)) := by
  obtain ⟨A0, nt, ct, R, nr, cr, S, ns, cs⟩ := d
  have H := Lib.hid h
  have HL := Lib.hid hlow
  obtain ⟨hs1, hs2, hs3⟩ := h.ns
  have hs4 := hlow.rows
  simp only at hs1 hs2 hs3
  have HTW := Lib.hid hT
  obtain ⟨V, hV, hX, hZ, hB, hsz⟩ := boxes2 w (.slice A0 nt ct) (.int .i64 r.size) (.slice R nr cr) (.slice S ns cs) (.int .u64 (r.on : Nat)) (.slice none 0 0) (.int .i64 0) (.slice none 0 0) (.slice none 0 0) (.int .u64 0) 33 33
  have hap := runsApart_any ⟨A0, nt, ct, R, nr, cr, S, ns, cs⟩ r V (h.below hB) hlow
  unfold jv at hap
  simp only at hap
  have AP := Lib.hid hap
  have E := Lib.hid hV
  have X0 := Lib.hid hX
  have Z0 := Lib.hid hZ
  have B0 := Lib.hid hB
  have SZ := hsz
  have d0 := hX.c0
  have d1 := hX.c1
  have d2 := hX.c2
  have d3 := hX.c3
  have d4 := hX.c4
  clear hV hX hZ hB hap h hlow hF hT hsz
  unfold jv
  go_enter Tryz.func9, Tryz.ntmps9
  go_wp2_with (rw [← E.out])
  clear E
  refine AP.out.mono ?_
  rintro e w1 ⟨⟨T1, nt1, ct1, R1, nr1, cr1, S1, ns1, cs1⟩, B1', B2', B3', es, ls, rfl, htold, hb1⟩
  unfold jv
  simp only
  have hb2 := below_new w1 (.cells #[.slice T1 nt1 ct1, .int .i64 r.size, .slice R1 nr1 cr1, .slice S1 ns1 cs1, .int .u64 (r.on : Nat)] 33)
  obtain ⟨w2, hw2⟩ : ∃ w2, w2 = w1.alloc (.cells #[.slice T1 nt1 ct1, .int .i64 r.size, .slice R1 nr1 cr1, .slice S1 ns1 cs1, .int .u64 (r.on : Nat)] 33) := ⟨_, rfl⟩
  have hY := C5.new w1 (.slice T1 nt1 ct1) (.int .i64 r.size) (.slice R1 nr1 cr1) (.slice S1 ns1 cs1) (.int .u64 (r.on : Nat)) 33
  rw [← hw2] at hb2 hY
  have E2 := Lib.hid hw2
  have hb12 := hb1.trans (hb2.mono hb1.size)
  have X2 := Lib.hid (X0.out.step hb12)
  have Z2 := Lib.hid (Z0.out.step hb12)
  have BB2 := Lib.hid (held_trans B0.out hb12)
  have T2 := Lib.hid (htold.step hb2)
  have TD := Lib.hid htold
  have Y2 := Lib.hid hY
  have hns := htold.ns
  have hs1' := hb1.size
  have hcm := comes_any ⟨A0, nt, ct, R, nr, cr, S, ns, cs⟩ r n (ns : Int) g w2 (H.out.below BB2.out) HL.out (HTW.out.step BB2.out)
  unfold jv at hcm
  simp only at hcm hns
  have CM := Lib.hid hcm
  have p0 := X2.out.c0
  have p1 := X2.out.c1
  have p2 := X2.out.c2
  have p3 := X2.out.c3
  have p4 := X2.out.c4
  obtain ⟨hns1, hns2⟩ := hns
  clear hb1 hb2 hb12 hw2 hY htold hcm X0 Z0 B0 AP d0 d1 d2 d3 d4
  go_wp2_with (rw [← E2.out])
  clear E2
  refine CM.out.mono ?_
  rintro e w3 ⟨rfl, hb3⟩
  have Z3 := Lib.hid (Z2.out.step hb3)
  have X3 := Lib.hid (Y2.out.step hb3)
  have BB3 := Lib.hid (held_trans BB2.out hb3)
  have T3 := Lib.hid (T2.out.step hb3)
  have SZ3 := hb3.size
  have SZ2 := Y2.out.lt
  clear CM p0 p1 p2 p3 p4 X2 Z2 BB2 T2 Y2 hb3
  by_cases hA : ¬ Jp.May r ∨ n < 0 ∨ (ns : Int) ≤ n ∨ g < 1
  · have HP := Lib.hid (Jp.push_arg (r := r) (p := n) (g := g) (by rw [hs1]; exact hA))
    rw [cmV_arg hA]
    clear hA
    have d0 := ((X3.out)).b5.c0
    have d1 := ((X3.out)).b5.c1
    have d2 := ((X3.out)).b5.c2
    have d3 := ((X3.out)).b5.c3
    have d4 := ((X3.out)).b5.c4
    have y0 := ((Z3.out)).b5.c0
    have y1 := ((Z3.out)).b5.c1
    have y2 := ((Z3.out)).b5.c2
    have y3 := ((Z3.out)).b5.c3
    have y4 := ((Z3.out)).b5.c4
    have g0 := ((Z3.out)).f0
    have g1 := ((Z3.out)).f1
    have g2 := ((Z3.out)).f2
    have g3 := ((Z3.out)).f3
    have g4 := ((Z3.out)).f4
    have HF := Lib.hid (tell_no (F := F) (w := w) (Z := w.heap.size + 1) (e := 1) (HP.out) (T3.out) (by omega) (by omega) (by omega) (BB3.out) (.slice T1 nt1 ct1) (.int .i64 r.size) (.slice R1 nr1 cr1) (.slice S1 ns1 cs1) (.int .u64 (r.on : Nat)))
    obtain ⟨k0, k1, k2, k3, k4⟩ := put5_told ((Z3.out)) (.slice T1 nt1 ct1) (.int .i64 r.size) (.slice R1 nr1 cr1) (.slice S1 ns1 cs1) (.int .u64 (r.on : Nat))
    unfold put5 at k0 k1 k2 k3 k4
    go_wp2_with fail
    refine bodyPost_ret ?_ rfl HF.out
    simp [results, Tryz.results9, go_sem, k0, k1, k2, k3, k4, jv]
  have HNA := Lib.hid hA
  clear hA
  by_cases hh : Tp.has (Jp.all r) g = true
  · have HP := Lib.hid (Jp.push_there (r := r) (p := n) (g := g) (by rw [hs1]; exact HNA.out) hh)
    rw [cmV_there HNA.out hh]
    clear hh
    have d0 := ((X3.out)).b5.c0
    have d1 := ((X3.out)).b5.c1
    have d2 := ((X3.out)).b5.c2
    have d3 := ((X3.out)).b5.c3
    have d4 := ((X3.out)).b5.c4
    have y0 := ((Z3.out)).b5.c0
    have y1 := ((Z3.out)).b5.c1
    have y2 := ((Z3.out)).b5.c2
    have y3 := ((Z3.out)).b5.c3
    have y4 := ((Z3.out)).b5.c4
    have g0 := ((Z3.out)).f0
    have g1 := ((Z3.out)).f1
    have g2 := ((Z3.out)).f2
    have g3 := ((Z3.out)).f3
    have g4 := ((Z3.out)).f4
    have HF := Lib.hid (tell_no (F := F) (w := w) (Z := w.heap.size + 1) (e := 5) (HP.out) (T3.out) (by omega) (by omega) (by omega) (BB3.out) (.slice T1 nt1 ct1) (.int .i64 r.size) (.slice R1 nr1 cr1) (.slice S1 ns1 cs1) (.int .u64 (r.on : Nat)))
    obtain ⟨k0, k1, k2, k3, k4⟩ := put5_told ((Z3.out)) (.slice T1 nt1 ct1) (.int .i64 r.size) (.slice R1 nr1 cr1) (.slice S1 ns1 cs1) (.int .u64 (r.on : Nat))
    unfold put5 at k0 k1 k2 k3 k4
    go_wp2_with fail
    refine bodyPost_ret ?_ rfl HF.out
    simp [results, Tryz.results9, go_sem, k0, k1, k2, k3, k4, jv]
  have hf := Jp.has_no.2 (fun h => hh (Jp.has_iff.2 h))
  have hMM := Classical.byContradiction (fun h => HNA.out (.inl h))
  obtain ⟨k, rfl⟩ := Int.eq_ofNat_of_zero_le (show 0 ≤ n from Int.not_lt.1 (fun h => HNA.out (.inr (.inl h))))
  have hkn : k < ns := by have := Int.not_le.1 (fun h => HNA.out (.inr (.inr (.inl h)))); omega
  rw [cmV_ok HNA.out hf]
  have HP := Lib.hid (Jp.push_done (r := r) (p := k) (g := g) (by rw [hs1]; exact HNA.out) hf)
  have hk1 : k < ns1 := by omega
  obtain ⟨gS, cap, eS, _, hgS, _, _⟩ := TD.out.rows.form (show 0 < ns1 by omega)
  injection eS with eS1 _ eS2
  subst eS1 eS2
  obtain ⟨e0, he0⟩ : ∃ e, ls[k]? = some e := ⟨_, List.getElem?_eq_getElem (by omega)⟩
  have hre0 : r.rows[k]? = some e0.l := by rw [← TD.out.isl, List.getElem?_map, he0]; rfl
  have HXR := Lib.hid (show Jp.rowAt r k = e0.l by unfold Jp.rowAt; rw [hre0]; rfl)
  have HPE := Lib.hid (show Jp.push r k g = (Jp.rowed r k (e0.l ++ [g]), 0) by rw [HP.out]; unfold Jp.pushed; rw [HXR.out])
  have hQB := fun k' hk' => ((TD.out.ours k e0 he0).lt k' hk').2
  have HQB := Lib.hid hQB
  have HGY := Lib.hid hgS
  have RD := Lib.hid (T3.out.ready (may_tree hMM) he0)
  obtain ⟨x2, _⟩ := own_slice csL_len (by decide) T3.out.rows
  obtain ⟨b, off, eb, _, hc0⟩ := x2.cell k e0 he0
  injection eb with eb
  injection eb with eb1 eb2 _
  subst eb1 eb2
  have c0 := hc0 0 _ rfl
  rw [Nat.zero_add, Nat.mul_one, Nat.add_zero] at c0
  have hm : e0.n ≤ 400 := by
    rw [← (x2.rows e0 (List.mem_of_getElem? he0)).len]
    exact HL.out.row e0.l (List.mem_of_getElem? hre0)
  have i0 : (0 : Int) ≤ (k : Int) := by omega
  have i1 : (k : Int) < (ns1 : Int) := by omega
  have q3 := X3.out.b5.c3
  clear hh hf hMM HNA HP he0 hre0 hQB x2 hc0 T3 TD
  go_wp2_with fail
  refine wp_region_held_drew (S := fun w' => w'.cell? ⟨w1.heap.size, 3, none⟩ = some (.slice (some ⟨gS, 0, none⟩) ns1 cs1)) (by kernel_rfl) q3 (fun hHeld => ?_)
  refine wpAnyH_takesJ (i := 0) (v := (.pointer (some ⟨w1.heap.size, 3, none⟩))) (some 23) rfl rfl (by kernel_rfl) (by kernel_rfl) (by kernel_rfl) (fun _ _ _ h => h) (Or.inl ⟨by rfl, (by intro W9 hSw; (try dsimp only at hSw); go_simp; first | done | with_reducible rfl)⟩) (by assumption) ?_
  simp only [Act.put, List.setIfInBounds_toArray]; try simp only [List.set_cons_zero, List.set_cons_succ]
  refine wpAnyH_takesJ (i := 1) (v := (.slice (some ⟨gS, 0, none⟩) ns1 cs1)) (some 24) rfl rfl (by kernel_rfl) (by kernel_rfl) (by kernel_rfl) (fun _ _ _ h => h) (Or.inl ⟨by rfl, (by intro W9 hSw; (try dsimp only at hSw); go_simp; first | done | with_reducible rfl)⟩) (by assumption) ?_
  simp only [Act.put, List.setIfInBounds_toArray]; try simp only [List.set_cons_zero, List.set_cons_succ]
  refine wpAnyH_takesJ (i := 2) (v := (.int .i64 (k : Nat))) (some 25) rfl rfl (by kernel_rfl) (by kernel_rfl) (by kernel_rfl) (fun _ _ _ h => h) (Or.inl ⟨by rfl, (by intro W9 hSw; (try dsimp only at hSw); go_simp; first | done | with_reducible rfl)⟩) (by assumption) ?_
  simp only [Act.put, List.setIfInBounds_toArray]; try simp only [List.set_cons_zero, List.set_cons_succ]
  refine wpAnyH_takesJ (i := 3) (v := (.pointer (some ⟨w1.heap.size, 3, none⟩))) (some 26) rfl rfl (by kernel_rfl) (by kernel_rfl) (by kernel_rfl) (fun _ _ _ h => h) (Or.inl ⟨by rfl, (by intro W9 hSw; (try dsimp only at hSw); go_simp; first | done | with_reducible rfl)⟩) (by assumption) ?_
  simp only [Act.put, List.setIfInBounds_toArray]; try simp only [List.set_cons_zero, List.set_cons_succ]
  refine wpAnyH_takesJ (i := 4) (v := (.slice (some ⟨gS, 0, none⟩) ns1 cs1)) (some 27) rfl rfl (by kernel_rfl) (by kernel_rfl) (by kernel_rfl) (fun _ _ _ h => h) (Or.inl ⟨by rfl, (by intro W9 hSw; (try dsimp only at hSw); go_simp; first | done | with_reducible rfl)⟩) (by assumption) ?_
  simp only [Act.put, List.setIfInBounds_toArray]; try simp only [List.set_cons_zero, List.set_cons_succ]
  refine wpAnyH_takesJ (i := 5) (v := (.int .i64 (k : Nat))) (some 28) rfl rfl (by kernel_rfl) (by kernel_rfl) (by kernel_rfl) (fun _ _ _ h => h) (Or.inl ⟨by rfl, (by intro W9 hSw; (try dsimp only at hSw); go_simp; first | done | with_reducible rfl)⟩) (by assumption) ?_
  simp only [Act.put, List.setIfInBounds_toArray]; try simp only [List.set_cons_zero, List.set_cons_succ]
  refine wpAnyH_takesJ (i := 6) (v := (.pointer (some ⟨gS, k, none⟩))) (some 29) rfl rfl (by kernel_rfl) (by kernel_rfl) (by kernel_rfl) (fun _ _ _ h => h) (Or.inl ⟨by rfl, (by intro W9 hSw; (try dsimp only at hSw); go_simp; first | done | with_reducible rfl)⟩) (by assumption) ?_
  simp only [Act.put, List.setIfInBounds_toArray]; try simp only [List.set_cons_zero, List.set_cons_succ]
  refine wpAnyH_takesJ (i := 8) (v := (.int .i64 g)) (some 31) rfl rfl (by kernel_rfl) (by kernel_rfl) (by kernel_rfl) (fun _ _ _ h => h) (Or.inl ⟨by rfl, (by intro W9 hSw; (try dsimp only at hSw); go_simp; first | done | with_reducible rfl)⟩) (by assumption) ?_
  simp only [Act.put, List.setIfInBounds_toArray]; try simp only [List.set_cons_zero, List.set_cons_succ]
  refine wpAnyH_ready (rs := [7, 9]) (by kernel_rfl) (by simp) ?_
  refine AllReadyH.cons rfl (fun K hK => ?_) (AllReadyH.cons rfl (fun K hK => ?_) AllReadyH.nil)
  · go_simp
    refine hK.out _ _ (by exact q3) (fun hHeld => ?_)
    clear hK K
    try dsimp only
    refine wpAnyH_ready (rs := [9]) (by kernel_rfl) (by simp) ?_
    refine AllReadyH.cons rfl (fun K hK => ?_) AllReadyH.nil
    go_simp
    have hb4 : Below w3.heap.size w3 (w3.alloc (.cells #[.int .i64 g] 3)).drew := (below_new w3 _).drew
    have R4 := Lib.hid (row_at w3 g _ rfl).drew
    obtain ⟨w4, hw4⟩ : ∃ w4, w4 = (w3.alloc (.cells #[.int .i64 g] 3)).drew := ⟨_, rfl⟩
    rw [← hw4] at hb4 R4
    rw [← hw4]
    clear hw4
    have X4 := Lib.hid (X3.out.step hb4)
    have Z4 := Lib.hid (Z3.out.step hb4)
    have B4 := Lib.hid (held_trans BB3.out hb4)
    have RD4 := Lib.hid (RD.out.step hb4)
    have c4 := keepcell hb4 c0
    have SZ4 := Lib.hid hb4.size
    refine hK.out _ _ (by exact X4.out.b5.c3) (fun hHeld => ?_)
    clear hK K hb4
    try dsimp only
    refine wpAnyH_ready (rs := [10]) (by kernel_rfl) (by simp) ?_
    refine AllReadyH.cons rfl (fun K hK => ?_) AllReadyH.nil
    refine step_append_rowat (by rfl) (.tmp 30) (.tmp 32) (by rfl) (V.heap.size + 2) (.slice e0.A e0.n e0.c) e0.n e0.l (by rfl) RD4.out.ours (some ⟨w3.heap.size, 0, none⟩) 1 1 [g] (by rfl) R4.out (by omega) RD4.out.up ?_
    intro v5 w5 ho5 hg5 hat5
    obtain ⟨A5, c5, rfl⟩ := own_form ho5
    have nX : ∀ k, (Value.slice e0.A e0.n e0.c).ownBlock = some k → V.heap.size + 2 ≤ k ∧ k < w1.heap.size := fun k hk => ⟨(RD4.out.ours.lt k hk).1, HQB.out k hk⟩
    have X5 := Lib.hid (X4.out.grown hg5 (fun e => by have := (nX _ e.symm).2; omega))
    have Z5 := Lib.hid (Z4.out.grown hg5 (fun e => by have := (nX _ e.symm).1; omega))
    have BB5 := Lib.hid (B4.out.grown hg5 B4.out.size (fun k hk => by have := (nX k hk).1; omega))
    have hgs := (RD4.out.rows.own.lt gS rfl)
    have hgY := HGY.out
    have MM := Lib.hid (RD4.out.push (F := fun _ => False) (w0 := V) (by omega) ho5 hg5 hat5)
    have XX := Lib.hid (RD4.out.rows.own.kept hg5 (by
      cases hob : (Value.slice e0.A e0.n e0.c).ownBlock with
      | none => exact .inr (by simp [Value.ownBlock])
      | some k => exact .inr (RD4.out.t4 k hob)))
    refine hK.out _ _ (by exact X5.out.b5.c3) (fun hHeld => ?_)
    clear hK K hg5 hat5 ho5 nX
    try dsimp only
    refine wpAnyH_takesJ (i := 11) (v := (.pointer (some ⟨gS, k, none⟩))) (some 34) rfl rfl (by kernel_rfl) (by kernel_rfl) (by kernel_rfl) (fun _ _ _ h => h) (Or.inl ⟨by rfl, (by intro W9 hSw; (try dsimp only at hSw); go_simp; first | done | with_reducible rfl)⟩) (by assumption) ?_
    simp only [Act.put, List.setIfInBounds_toArray]; try simp only [List.set_cons_zero, List.set_cons_succ]
    have cc : w5.cell? ⟨gS, k, none⟩ = some (.slice e0.A e0.n e0.c) := by
      have p4 := XX.out.cellAt k (show k < ns1 * 1 by omega)
      have p5 := flat_at csL_len ls k e0 0 RD4.out.at' (by decide)
      rw [Nat.mul_one, Nat.add_zero] at p5
      rw [p5] at p4
      exact p4
    have ff := XX.out.frozenAt k
    refine wpAnyH_ready (rs := [12]) (by kernel_rfl) (by simp) ?_
    refine AllReadyH.cons rfl (fun K hK => ?_) AllReadyH.nil
    go_simp
    have X6 := X5.out.far (p := ⟨gS, k, none⟩) (u := .slice A5 (e0.n + 1) c5) (by simp only; omega)
    have Z6 := Z5.out.far (p := ⟨gS, k, none⟩) (u := .slice A5 (e0.n + 1) c5) (by simp only; omega)
    have BB6 := BB5.out.setCell (p := ⟨gS, k, none⟩) (by simp only; omega) (.slice A5 (e0.n + 1) c5)
    refine hK.out _ _ (by exact X6.b5.c3) (fun hHeld => ?_)
    clear hK K
    try dsimp only
    refine wpAnyH_done (by kernel_rfl) ?_ _
    obtain ⟨W6, hW6⟩ : ∃ W6, W6 = w5.setCell ⟨gS, k, none⟩ (.slice A5 (e0.n + 1) c5) := ⟨_, rfl⟩
    rw [← hW6] at X6 Z6 BB6 MM ⊢
    have HX6 := Lib.hid X6
    have HZ6 := Lib.hid Z6
    have HB6 := Lib.hid BB6
    clear hW6 X6 Z6 BB6 cc ff X5 Z5 BB5 XX X4 Z4 B4 RD4 c4 R4
    have d0 := HX6.out.b5.c0
    have d1 := HX6.out.b5.c1
    have d2 := HX6.out.b5.c2
    have d3 := HX6.out.b5.c3
    have d4 := HX6.out.b5.c4
    have y0 := HZ6.out.b5.c0
    have y1 := HZ6.out.b5.c1
    have y2 := HZ6.out.b5.c2
    have y3 := HZ6.out.b5.c3
    have y4 := HZ6.out.b5.c4
    have g0 := HZ6.out.f0
    have g1 := HZ6.out.f1
    have g2 := HZ6.out.f2
    have g3 := HZ6.out.f3
    have g4 := HZ6.out.f4
    have HF := Lib.hid (tell_yes (F := F) (w := w) (V := V) (Z := w.heap.size + 1) (e := 0) HPE.out MM.out (by omega) (by omega) (by omega) HB6.out (.slice T1 nt1 ct1) (.int .i64 r.size) (.slice R1 nr1 cr1) (.slice (some ⟨gS, 0, none⟩) ns1 cs1) (.int .u64 (r.on : Nat)))
    obtain ⟨k0, k1, k2, k3, k4⟩ := put5_told HZ6.out (.slice T1 nt1 ct1) (.int .i64 r.size) (.slice R1 nr1 cr1) (.slice (some ⟨gS, 0, none⟩) ns1 cs1) (.int .u64 (r.on : Nat))
    unfold put5 at k0 k1 k2 k3 k4
    clear MM c0
    go_wp2_with fail
    refine bodyPost_ret ?_ rfl HF.out
    simp [results, Tryz.results9, go_sem, k0, k1, k2, k3, k4, jv, Jp.rowed]
  · go_simp
    have hb4 : Below w3.heap.size w3 (w3.alloc (.cells #[.int .i64 g] 3)).drew := (below_new w3 _).drew
    have R4 := Lib.hid (row_at w3 g _ rfl).drew
    obtain ⟨w4, hw4⟩ : ∃ w4, w4 = (w3.alloc (.cells #[.int .i64 g] 3)).drew := ⟨_, rfl⟩
    rw [← hw4] at hb4 R4
    rw [← hw4]
    clear hw4
    have X4 := Lib.hid (X3.out.step hb4)
    have Z4 := Lib.hid (Z3.out.step hb4)
    have B4 := Lib.hid (held_trans BB3.out hb4)
    have RD4 := Lib.hid (RD.out.step hb4)
    have c4 := keepcell hb4 c0
    have SZ4 := Lib.hid hb4.size
    refine hK.out _ _ (by exact X4.out.b5.c3) (fun hHeld => ?_)
    clear hK K hb4
    try dsimp only
    refine wpAnyH_ready (rs := [7]) (by kernel_rfl) (by simp) ?_
    refine AllReadyH.cons rfl (fun K hK => ?_) AllReadyH.nil
    go_simp
    refine hK.out _ _ (by exact X4.out.b5.c3) (fun hHeld => ?_)
    clear hK K
    try dsimp only
    refine wpAnyH_ready (rs := [10]) (by kernel_rfl) (by simp) ?_
    refine AllReadyH.cons rfl (fun K hK => ?_) AllReadyH.nil
    refine step_append_rowat (by rfl) (.tmp 30) (.tmp 32) (by rfl) (V.heap.size + 2) (.slice e0.A e0.n e0.c) e0.n e0.l (by rfl) RD4.out.ours (some ⟨w3.heap.size, 0, none⟩) 1 1 [g] (by rfl) R4.out (by omega) RD4.out.up ?_
    intro v5 w5 ho5 hg5 hat5
    obtain ⟨A5, c5, rfl⟩ := own_form ho5
    have nX : ∀ k, (Value.slice e0.A e0.n e0.c).ownBlock = some k → V.heap.size + 2 ≤ k ∧ k < w1.heap.size := fun k hk => ⟨(RD4.out.ours.lt k hk).1, HQB.out k hk⟩
    have X5 := Lib.hid (X4.out.grown hg5 (fun e => by have := (nX _ e.symm).2; omega))
    have Z5 := Lib.hid (Z4.out.grown hg5 (fun e => by have := (nX _ e.symm).1; omega))
    have BB5 := Lib.hid (B4.out.grown hg5 B4.out.size (fun k hk => by have := (nX k hk).1; omega))
    have hgs := (RD4.out.rows.own.lt gS rfl)
    have hgY := HGY.out
    have MM := Lib.hid (RD4.out.push (F := fun _ => False) (w0 := V) (by omega) ho5 hg5 hat5)
    have XX := Lib.hid (RD4.out.rows.own.kept hg5 (by
      cases hob : (Value.slice e0.A e0.n e0.c).ownBlock with
      | none => exact .inr (by simp [Value.ownBlock])
      | some k => exact .inr (RD4.out.t4 k hob)))
    refine hK.out _ _ (by exact X5.out.b5.c3) (fun hHeld => ?_)
    clear hK K hg5 hat5 ho5 nX
    try dsimp only
    refine wpAnyH_takesJ (i := 11) (v := (.pointer (some ⟨gS, k, none⟩))) (some 34) rfl rfl (by kernel_rfl) (by kernel_rfl) (by kernel_rfl) (fun _ _ _ h => h) (Or.inl ⟨by rfl, (by intro W9 hSw; (try dsimp only at hSw); go_simp; first | done | with_reducible rfl)⟩) (by assumption) ?_
    simp only [Act.put, List.setIfInBounds_toArray]; try simp only [List.set_cons_zero, List.set_cons_succ]
    have cc : w5.cell? ⟨gS, k, none⟩ = some (.slice e0.A e0.n e0.c) := by
      have p4 := XX.out.cellAt k (show k < ns1 * 1 by omega)
      have p5 := flat_at csL_len ls k e0 0 RD4.out.at' (by decide)
      rw [Nat.mul_one, Nat.add_zero] at p5
      rw [p5] at p4
      exact p4
    have ff := XX.out.frozenAt k
    refine wpAnyH_ready (rs := [12]) (by kernel_rfl) (by simp) ?_
    refine AllReadyH.cons rfl (fun K hK => ?_) AllReadyH.nil
    go_simp
    have X6 := X5.out.far (p := ⟨gS, k, none⟩) (u := .slice A5 (e0.n + 1) c5) (by simp only; omega)
    have Z6 := Z5.out.far (p := ⟨gS, k, none⟩) (u := .slice A5 (e0.n + 1) c5) (by simp only; omega)
    have BB6 := BB5.out.setCell (p := ⟨gS, k, none⟩) (by simp only; omega) (.slice A5 (e0.n + 1) c5)
    refine hK.out _ _ (by exact X6.b5.c3) (fun hHeld => ?_)
    clear hK K
    try dsimp only
    refine wpAnyH_done (by kernel_rfl) ?_ _
    obtain ⟨W6, hW6⟩ : ∃ W6, W6 = w5.setCell ⟨gS, k, none⟩ (.slice A5 (e0.n + 1) c5) := ⟨_, rfl⟩
    rw [← hW6] at X6 Z6 BB6 MM ⊢
    have HX6 := Lib.hid X6
    have HZ6 := Lib.hid Z6
    have HB6 := Lib.hid BB6
    clear hW6 X6 Z6 BB6 cc ff X5 Z5 BB5 XX X4 Z4 B4 RD4 c4 R4
    have d0 := HX6.out.b5.c0
    have d1 := HX6.out.b5.c1
    have d2 := HX6.out.b5.c2
    have d3 := HX6.out.b5.c3
    have d4 := HX6.out.b5.c4
    have y0 := HZ6.out.b5.c0
    have y1 := HZ6.out.b5.c1
    have y2 := HZ6.out.b5.c2
    have y3 := HZ6.out.b5.c3
    have y4 := HZ6.out.b5.c4
    have g0 := HZ6.out.f0
    have g1 := HZ6.out.f1
    have g2 := HZ6.out.f2
    have g3 := HZ6.out.f3
    have g4 := HZ6.out.f4
    have HF := Lib.hid (tell_yes (F := F) (w := w) (V := V) (Z := w.heap.size + 1) (e := 0) HPE.out MM.out (by omega) (by omega) (by omega) HB6.out (.slice T1 nt1 ct1) (.int .i64 r.size) (.slice R1 nr1 cr1) (.slice (some ⟨gS, 0, none⟩) ns1 cs1) (.int .u64 (r.on : Nat)))
    obtain ⟨k0, k1, k2, k3, k4⟩ := put5_told HZ6.out (.slice T1 nt1 ct1) (.int .i64 r.size) (.slice R1 nr1 cr1) (.slice (some ⟨gS, 0, none⟩) ns1 cs1) (.int .u64 (r.on : Nat))
    unfold put5 at k0 k1 k2 k3 k4
    clear MM c0
    go_wp2_with fail
    refine bodyPost_ret ?_ rfl HF.out
    simp [results, Tryz.results9, go_sem, k0, k1, k2, k3, k4, jv, Jp.rowed]
end Go.Proofs.YtgloibgmaiadfaaGreatDoor

