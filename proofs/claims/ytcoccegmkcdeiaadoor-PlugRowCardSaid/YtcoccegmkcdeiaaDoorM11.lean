/- Contracts and plain mathematics, put together by program (wip/merge.py) out of: JApart JReal JApartW. -/
import Derived.Test.YtcoccegmkcdeiaaDoorM7
import Derived.Test.YtcoccegmkcdeiaaDoorJRefMay
/- runs.apart, by its contract: the same Runs, all in memory of its own. -/
namespace Go.Proofs.YtcoccegmkcdeiaaDoor
open Go.RowKit
set_option linter.unusedVariables false

theorem flat_set_snd (es : List El) (i : Nat) (e : El) (A : Option Addr) (n c : Nat) (hi : es[i]? = some e) : (es.flatMap csG).set (i * 2 + 1) (.slice A n c) = (es.set i { e with A := A, n := n, c := c }).flatMap csG := by
  have hl := (List.getElem?_eq_some_iff.1 hi).1
  rw [← flat_set_two es i { e with A := A, n := n, c := c } hl]
  congr 1
  have h0 := flat_at csG_len es i e 0 hi (by decide)
  rw [Nat.add_zero] at h0
  have h1 : (csG e)[0]? = some (.int .i64 e.x) := rfl
  rw [h1] at h0
  obtain ⟨h2, h3⟩ := List.getElem?_eq_some_iff.1 h0
  apply List.ext_getElem (by simp)
  intro j hj1 hj2
  rw [List.getElem_set]
  split
  · rename_i e1; subst e1; exact h3
  · rfl
/-- An element's row turned. -/
theorem XO.setL {ty : TypeId} {W : World} {base g n cap : Nat} {es : List El} (h : XO csG 2 ty base W (.slice (some ⟨g, 0, Option.none⟩) n cap) n es) (i : Nat) (e : El) (hi : es[i]? = some e) (A : Option Addr) (m c : Nat) (hr : Row W A m c e.l) (ha : e.l ≠ [] → ∀ ad, A = some ad → ad.block ≠ g) :
    XO csG 2 ty base (W.setCell ⟨g, i * 2 + 1, Option.none⟩ (.slice A m c)) (.slice (some ⟨g, 0, Option.none⟩) n cap) n (es.set i { e with A := A, n := m, c := c }) := by
  obtain ⟨h1, hg⟩ := h.own.stored (i * 2 + 1) (.slice A m c)
  have each : ∀ e' ∈ es.set i { e with A := A, n := m, c := c }, Row W e'.A e'.n e'.c e'.l ∧ Apart (.slice (some ⟨g, 0, Option.none⟩) n cap) e' := by
    intro e' he'
    rcases List.mem_or_eq_of_mem_set he' with h' | rfl
    · exact ⟨h.rows e' h', h.apart e' h'⟩
    · exact ⟨hr, fun hne ad hA e2 => ha hne ad hA (by simp only [Value.ownBlock, Option.some.injEq] at e2; exact e2.symm)⟩
  refine ⟨by rw [← flat_set_snd es i e A m c hi]; exact h1, fun e' he' => ?_, fun e' he' => (each e' he').2⟩
  exact row_kept (each e' he').1 hg (fun hne ad hA => (each e' he').2 hne ad hA)
theorem XO.form {cs : El → List Value} {sz : Nat} {ty : TypeId} {W : World} {base n : Nat} {v : Value} {es : List El} (h : XO cs sz ty base W v n es) (hn : 0 < n) : ∃ g cap, v = .slice (some ⟨g, 0, Option.none⟩) n cap ∧ base ≤ g ∧ g < W.heap.size ∧ n ≤ cap ∧ cap ≤ 9223372036854775807 := by
  rcases h.own.2 with ⟨rfl, rfl⟩ | ⟨g, cap, cur, rfl, hb, _, h1, h2, _⟩
  · omega
  · exact ⟨g, cap, rfl, hb, (h.own.lt g rfl).2, h1, by unfold maxLen at h2; omega⟩
/-- Where the first loop stands: the first k rings' rows are its own. -/
structure LG (w : World) (B1 nt c1 nr c2 ns cs : Nat) (A1 A2 S : Option Addr) (r : Jp.Rn) (k : Nat) (es : List El) (wr : World) : Prop where
  box : C5 wr w.heap.size (.slice A1 nt c1) (.int .i64 r.size) (.slice A2 nr c2) (.slice S ns cs) (.int .u64 (r.on : Nat))
  put : C5 wr (w.heap.size + 1) (.slice none 0 0) (.int .i64 0) (.slice none 0 0) (.slice none 0 0) (.int .u64 0)
  tree : VRow wr B1 A1 r.tree
  own : XO csG 2 45 B1 wr (.slice A2 nr c2) nr es
  is : es.map elG = r.rings
  mine : ∀ i e, i < k → es[i]? = some e → From B1 e.A
  below : Below w.heap.size w wr
  low : w.heap.size + 2 ≤ B1
  up : B1 ≤ wr.heap.size
theorem LG.next {w wr w2 : World} {B1 nt c1 nr ns cs k g cap : Nat} {A1 S : Option Addr} {r : Jp.Rn} {es : List El} (h : LG w B1 nt c1 nr cap ns cs A1 (some ⟨g, 0, none⟩) S r k es wr) {e : El} (hk : es[k]? = some e) {A3 : Option Addr} {n3 c3 : Nat}
    (hb : Below wr.heap.size wr w2) (ho : w2.ownsRow wr.heap.size 3 1 (.slice A3 n3 c3) n3 (e.l.map (Value.int .i64))) :
    LG w B1 nt c1 nr cap ns cs A1 (some ⟨g, 0, none⟩) S r (k + 1) (es.set k { e with A := A3, n := n3, c := c3 }) (w2.setCell ⟨g, k * 2 + 1, none⟩ (.slice A3 n3 c3)) := by
  have hg := (h.own.own.lt g rfl)
  have hlo := h.low
  obtain ⟨A4, c4, e4, hr4, hf4⟩ := Row.of_own' ho
  injection e4 with e41 _ e42
  subst e41 e42
  have htree : VRow (w2.setCell ⟨g, k * 2 + 1, none⟩ (.slice A3 n3 c3)) B1 A1 r.tree := by
    intro i z hi
    obtain ⟨b, off, e, hb1, hc, hd⟩ := h.tree i z hi
    exact ⟨b, off, e, hb1, farcell (by omega) (keepcell hb hc), farcell (by omega) (keepcell hb hd)⟩
  refine ⟨(h.box.step hb).far (by simp only; omega), (h.put.step hb).far (by simp only; omega), htree, (h.own.step hb).setL k e hk A3 n3 c3 hr4 (fun _ ad hA => ?_), ?_, fun i e' hi he' => ?_, (h.below.trans (hb.mono h.below.size)).setCell (by simp only; omega) _, h.low, by have := h.up; have := hb.size; simp [World.setCell]; omega⟩
  · have := hf4 ad hA; omega
  · rw [List.map_set, ← h.is]
    have : elG { e with A := A3, n := n3, c := c3 } = elG e := rfl
    rw [this]
    apply List.ext_getElem? 
    intro j
    rw [List.getElem?_set]
    split
    · rename_i e1; subst e1; split
      · rw [List.getElem?_map, hk]; rfl
      · rw [List.getElem?_map, hk]; rename_i h2; exact absurd (by simpa using (List.getElem?_eq_some_iff.1 hk).1) h2
    · rfl
  · rw [List.getElem?_set] at he'
    split at he'
    · split at he'
      · injection he' with he'; subst he'; exact hf4.mono (by have := h.up; omega)
      · cases he'
    · exact h.mine i e' (by omega) he'
/-- Where the second loop stands: the first k rows are its own, and lie apart. -/
structure LL (w : World) (B1 B2 B3 nt c1 nr c2 ns c4 : Nat) (A1 A2 A4 : Option Addr) (r : Jp.Rn) (k : Nat) (es ls : List El) (wr : World) : Prop where
  box : C5 wr w.heap.size (.slice A1 nt c1) (.int .i64 r.size) (.slice A2 nr c2) (.slice A4 ns c4) (.int .u64 (r.on : Nat))
  put : C5 wr (w.heap.size + 1) (.slice none 0 0) (.int .i64 0) (.slice none 0 0) (.slice none 0 0) (.int .u64 0)
  tree : VRow wr B1 A1 r.tree
  own : XO csG 2 45 B1 wr (.slice A2 nr c2) nr es
  is : es.map elG = r.rings
  mine : ∀ e ∈ es, From B1 e.A
  gl : ∀ g, (Value.slice A2 nr c2).ownBlock = some g → g < B2
  gr : ∀ e ∈ es, e.l ≠ [] → ∀ ad, e.A = some ad → ad.block < B2
  rows : XO csL 1 42 B2 wr (.slice A4 ns c4) ns ls
  isl : ls.map elL = r.rows
  ll : ∀ g, (Value.slice A4 ns c4).ownBlock = some g → g < B3
  ours : ∀ i e, i < k → ls[i]? = some e → wr.ownsRow B3 3 1 (.slice e.A e.n e.c) e.n (e.l.map (Value.int .i64))
  far : ∀ i j e f, i < k → i ≠ j → ls[i]? = some e → ls[j]? = some f → Apart (.slice e.A e.n e.c) f
  below : Below w.heap.size w wr
  low : w.heap.size + 2 ≤ B1
  o12 : B1 ≤ B2
  o23 : B2 ≤ B3
  up : B3 ≤ wr.heap.size
theorem LL.next {w wr w2 : World} {B1 B2 B3 nt c1 nr c2 ns k g cap : Nat} {A1 A2 : Option Addr} {r : Jp.Rn} {es ls : List El} (h : LL w B1 B2 B3 nt c1 nr c2 ns cap A1 A2 (some ⟨g, 0, none⟩) r k es ls wr) {e : El} (hk : ls[k]? = some e) {A3 : Option Addr} {n3 c3 : Nat}
    (hb : Below wr.heap.size wr w2) (ho : w2.ownsRow wr.heap.size 3 1 (.slice A3 n3 c3) n3 (e.l.map (Value.int .i64))) :
    LL w B1 B2 B3 nt c1 nr c2 ns cap A1 A2 (some ⟨g, 0, none⟩) r (k + 1) es (ls.set k { e with A := A3, n := n3, c := c3 }) (w2.setCell ⟨g, k, none⟩ (.slice A3 n3 c3)) := by
  have hg := (h.rows.own.lt g rfl)
  have hg3 := h.ll g rfl
  have hlo := h.low
  have h12 := h.o12
  have h23 := h.o23
  have hup := h.up
  have hkn : k < ns := by rw [← h.rows.len csL_len (by decide)]; exact (List.getElem?_eq_some_iff.1 hk).1
  obtain ⟨A4, c4, e4, hr4, hf4⟩ := Row.of_own' ho
  injection e4 with e41 _ e42
  subst e41 e42
  have htree : VRow (w2.setCell ⟨g, k, none⟩ (.slice A3 n3 c3)) B1 A1 r.tree := by
    intro i z hi
    obtain ⟨b, off, e, hb1, hc, hd⟩ := h.tree i z hi
    exact ⟨b, off, e, hb1, farcell (by omega) (keepcell hb hc), farcell (by omega) (keepcell hb hd)⟩
  have hset := (h.rows.step hb).set1 k { e with A := A3, n := n3, c := c3 } hkn hr4 (fun hne ad hA e2 => by
    have := hf4 ad hA
    simp only [Value.ownBlock, Option.some.injEq] at e2
    omega)
  have hgrow : (w2.grownBy (w2.setCell ⟨g, k, none⟩ (.slice A3 n3 c3)) (some g)) := ((h.rows.step hb).own.stored k (.slice A3 n3 c3)).2
  refine ⟨(h.box.step hb).far (by simp only; omega), (h.put.step hb).far (by simp only; omega), htree, ?_, h.is, h.mine, h.gl, h.gr, hset, ?_, h.ll, fun i e' hi he' => ?_, fun i j e' f hi hij he' hf => ?_, (h.below.trans (hb.mono h.below.size)).setCell (by simp only; omega) _, h.low, h.o12, h.o23, by have := hb.size; simp [World.setCell]; omega⟩
  · refine ⟨(h.own.step hb).own.kept hgrow (.inr (fun e => ?_)), fun e' he' => row_farj ((h.own.step hb).rows e' he') (fun hne ad hA => ?_), h.own.apart⟩
    · have := h.gl g e; omega
    · have := h.gr e' he' hne ad hA; omega
  · rw [List.map_set, ← h.isl]
    have : elL { e with A := A3, n := n3, c := c3 } = elL e := rfl
    rw [this]
    apply List.ext_getElem? 
    intro j
    rw [List.getElem?_set]
    split
    · rename_i e1; subst e1; split
      · rw [List.getElem?_map, hk]; rfl
      · rw [List.getElem?_map, hk]; rename_i h2; exact absurd (by simpa using (List.getElem?_eq_some_iff.1 hk).1) h2
    · rfl
  · rw [List.getElem?_set] at he'
    split at he'
    · split at he'
      · injection he' with he'
        subst he'
        have ho' : w2.ownsRow B3 3 1 (.slice A3 n3 c3) n3 (e.l.map (Value.int .i64)) := zown_base' ho hup
        refine ho'.kept hgrow ?_
        cases hob : (Value.slice A3 n3 c3).ownBlock with
        | none => exact .inl rfl
        | some b => exact .inr (fun e => by injection e with e; have := (ho.lt b hob).1; omega)
      · cases he'
    · have h1 := own_below (h.ours i e' (by omega) he') hb
      refine h1.kept hgrow ?_
      cases hob : (Value.slice e'.A e'.n e'.c).ownBlock with
      | none => exact .inl rfl
      | some b => exact .inr (fun e => by injection e with e; have := (h1.lt b hob).1; omega)
  · rw [List.getElem?_set] at he' hf
    intro hne ad hA e2
    by_cases hik : k = i
    · subst hik
      rw [if_pos rfl, if_pos (by rw [h.rows.len csL_len (by decide)]; exact hkn)] at he'
      injection he' with he'
      subst he'
      rw [if_neg hij] at hf
      have h1 := row_block (h.rows.rows f (List.mem_of_getElem? hf)) hne hA
      have h2 := (ho.lt _ e2).1
      omega
    · rw [if_neg hik] at he'
      by_cases hjk : k = j
      · subst hjk
        rw [if_pos rfl, if_pos (by rw [h.rows.len csL_len (by decide)]; exact hkn)] at hf
        injection hf with hf
        subst hf
        have h1 := ((h.ours i e' (by omega) he').lt _ e2).2
        have h2 := hf4 ad hA
        omega
      · rw [if_neg hjk] at hf
        exact h.far i j e' f (by omega) hij he' hf hne ad hA e2
/-- What is told by apart: all in memory of its own; the rows' blocks lie behind all others, each by itself. -/
structure Told (B0 B1 B2 B3 : Nat) (d : Ad) (r : Jp.Rn) (es ls : List El) (W : World) : Prop where
  tlen : r.tree.length = d.nt
  tmax : d.nt ≤ 9223372036854775807
  fit : Fit r.tree
  on : r.on < 18446744073709551616
  size : In64 r.size
  tree : VRow W B1 d.T r.tree
  treeF : From B0 d.T
  own : XO csG 2 45 B1 W (.slice d.R d.nr d.cr) d.nr es
  is : es.map elG = r.rings
  mine : ∀ e ∈ es, From B1 e.A
  gl : ∀ g, (Value.slice d.R d.nr d.cr).ownBlock = some g → g < B2
  gr : ∀ e ∈ es, e.l ≠ [] → ∀ ad, e.A = some ad → ad.block < B2
  rows : XO csL 1 42 B2 W (.slice d.S d.ns d.cs) d.ns ls
  isl : ls.map elL = r.rows
  ll : ∀ g, (Value.slice d.S d.ns d.cs).ownBlock = some g → g < B3
  ours : ∀ (i : Nat) (e : El), ls[i]? = some e → W.ownsRow B3 3 1 (.slice e.A e.n e.c) e.n (e.l.map (Value.int .i64))
  far : ∀ (i j : Nat) (e f : El), i ≠ j → ls[i]? = some e → ls[j]? = some f → Apart (.slice e.A e.n e.c) f
  o01 : B0 ≤ B1
  o12 : B1 ≤ B2
  o23 : B2 ≤ B3
  up : B3 ≤ W.heap.size
theorem Told.step {B0 B1 B2 B3 : Nat} {d : Ad} {r : Jp.Rn} {es ls : List El} {W W' : World} (h : Told B0 B1 B2 B3 d r es ls W) (hb : Below W.heap.size W W') : Told B0 B1 B2 B3 d r es ls W' :=
  { h with
    tree := h.tree.below (hb.mono (Nat.le_trans h.o12 (Nat.le_trans h.o23 h.up)))
    own := h.own.step hb
    rows := h.rows.step hb
    ours := fun i e hi => own_below (h.ours i e hi) hb
    up := Nat.le_trans h.up hb.size }
theorem own_slice {cs : El → List Value} {sz : Nat} {ty : TypeId} {W : World} {base n c : Nat} {A : Option Addr} {es : List El} (hcs : ∀ e, (cs e).length = sz) (h0 : 0 < sz) (h : XO cs sz ty base W (.slice A n c) n es) : XR cs sz W A n c es ∧ From base A := by
  obtain ⟨A', c', e, h1, h2⟩ := h.xr hcs h0
  injection e with e1 _ e2
  subst e1 e2
  exact ⟨h1, h2⟩
theorem Told.rm {F : Nat → Prop} {B0 B1 B2 B3 : Nat} {d : Ad} {r : Jp.Rn} {es ls : List El} {W w0 : World} (h : Told B0 B1 B2 B3 d r es ls W) (h0 : w0.heap.size ≤ B0) : RM (More F w0) W d r := by
  obtain ⟨x1, f1⟩ := own_slice csG_len (by decide) h.own
  obtain ⟨x2, f2⟩ := own_slice csL_len (by decide) h.rows
  have h01 := h.o01
  have h12 := h.o12
  have h23 := h.o23
  refine ⟨h.tlen, h.tmax, h.fit, h.tree.more (by have := h.up; omega), fun _ ad hA => .inr (by have := h.treeF ad hA; omega), ⟨es, x1, h.is.symm, fun _ ad hA => .inr (by have := f1 ad hA; omega), fun e he _ ad hA => .inr (by have := h.mine e he ad hA; omega)⟩, ⟨ls, x2, h.isl.symm, fun _ ad hA => .inr (by have := f2 ad hA; omega), fun e he hne ad hA => .inr ?_⟩, h.on, h.size⟩
  obtain ⟨i, hi⟩ := List.mem_iff_getElem?.1 he
  obtain ⟨_, _, e1, _, h3⟩ := Row.of_own' (h.ours i e hi)
  injection e1 with e1
  subst e1
  have := h3 ad hA
  omega
theorem grown_one (W : World) (X j : Nat) (u : Value) : W.grownBy (W.setCell ⟨X, j, none⟩ u) (some X) := ⟨rfl, rfl, rfl, by simp [World.setCell], fun k _ hk => Below.heap_setCell _ _ _ _ (fun e => hk (by simp [e]))⟩
theorem grown_put5 (W : World) (X : Nat) (u0 u1 u2 u3 u4 : Value) : W.grownBy (put5 W X u0 u1 u2 u3 u4) (some X) :=
  ((((grown_one W X 0 u0).trans (grown_one _ X 1 u1)).trans (grown_one _ X 2 u2)).trans (grown_one _ X 3 u3)).trans (grown_one _ X 4 u4)
theorem LL.told {F : Nat → Prop} {w wr : World} {B1 B2 B3 nt ct c1 nr cr c2 ns cs c4 : Nat} {A0 A1 R A2 S A4 : Option Addr} {r : Jp.Rn} {es ls : List El} (h : LL w B1 B2 B3 nt c1 nr c2 ns c4 A1 A2 A4 r ns es ls wr) (hT : From (w.heap.size + 2) A1) (H : RM F w ⟨A0, nt, ct, R, nr, cr, S, ns, cs⟩ r) (u0 u1 u2 u3 u4 : Value) :
    Told (w.heap.size + 2) B1 B2 B3 ⟨A1, nt, c1, A2, nr, c2, A4, ns, c4⟩ r es ls (put5 wr (w.heap.size + 1) u0 u1 u2 u3 u4) := by
  have hlo := h.low
  have h12 := h.o12
  have h23 := h.o23
  have hup := h.up
  have hns : ls.length = ns := h.rows.len csL_len (by decide)
  have hg := grown_put5 wr (w.heap.size + 1) u0 u1 u2 u3 u4
  have nb : ∀ {v : Value} {B : Nat}, (∀ b, v.ownBlock = some b → w.heap.size + 2 ≤ b) → v.ownBlock = none ∨ v.ownBlock ≠ some (w.heap.size + 1) := fun {v B} hv => by
    cases hob : v.ownBlock with
    | none => exact .inl rfl
    | some b => exact .inr (fun e => by injection e with e; have := hv b hob; omega)
  have fr : ∀ {l : List Int} {A : Option Addr}, From (w.heap.size + 2) A → l ≠ [] → ∀ ad, A = some ad → some (w.heap.size + 1) ≠ some ad.block := fun {l A} hf _ ad hA e => by injection e with e; have := hf ad hA; omega
  have rf : ∀ (i : Nat) e, ls[i]? = some e → From B3 e.A := fun i e hi => by
    obtain ⟨_, _, e1, _, h3⟩ := Row.of_own' (h.ours i e (by rw [← hns]; exact (List.getElem?_eq_some_iff.1 hi).1) hi)
    injection e1 with e1
    subst e1
    exact h3
  refine ⟨H.tlen, H.tmax, H.fit, H.on, H.size, ?_, hT, ⟨h.own.own.kept hg (nb (B := 0) (fun b hb => by have := (h.own.own.lt b hb).1; omega)), fun e he => row_kept (h.own.rows e he) hg (fr ((h.mine e he).mono (by omega))), h.own.apart⟩, h.is, h.mine, h.gl, h.gr,
    ⟨h.rows.own.kept hg (nb (B := 0) (fun b hb => by have := (h.rows.own.lt b hb).1; omega)), fun e he => ?_, h.rows.apart⟩, h.isl, h.ll, fun i e hi => ?_, fun i j e f hij hi hj => h.far i j e f (by rw [← hns]; exact (List.getElem?_eq_some_iff.1 hi).1) hij hi hj, h.low, h.o12, h.o23, Nat.le_trans hup hg.size⟩
  · intro i z hi
    obtain ⟨b, off, e, hb1, hc, hd⟩ := h.tree i z hi
    have := hT _ e
    simp only at this
    exact ⟨b, off, e, hb1, hg.cell hc (fun e => by injection e with e; simp only at e; omega), hg.cell hd (fun e => by injection e with e; simp only at e; omega)⟩
  · obtain ⟨i, hi⟩ := List.mem_iff_getElem?.1 he
    exact row_kept (h.rows.rows e he) hg (fr ((rf i e hi).mono (by omega)))
  · exact (h.ours i e (by rw [← hns]; exact (List.getElem?_eq_some_iff.1 hi).1) hi).kept hg (nb (B := 0) (fun b hb => by have := ((h.ours i e (by rw [← hns]; exact (List.getElem?_eq_some_iff.1 hi).1) hi).lt b hb).1; omega))
end Go.Proofs.YtcoccegmkcdeiaaDoor


/- The law's real, by its contract: the same Runs, the rings in a row of its own. -/
namespace Go.Proofs.YtcoccegmkcdeiaaDoor
open Go.RowKit
set_option linter.unusedVariables false

/-- A box, a result's place, and a variable. -/
theorem boxes3v (w : World) (p0 p1 p2 p3 p4 z0 z1 z2 z3 z4 x0 x1 x2 x3 x4 : Value) (T U U' : TypeId) : ∃ V, V = ((w.alloc (.cells #[p0, p1, p2, p3, p4] T)).alloc (.cells #[z0, z1, z2, z3, z4] U)).alloc (.cells #[x0, x1, x2, x3, x4] U') ∧
    B5 V w.heap.size p0 p1 p2 p3 p4 ∧ C5 V (w.heap.size + 1) z0 z1 z2 z3 z4 ∧ C5 V (w.heap.size + 1 + 1) x0 x1 x2 x3 x4 ∧ Below w.heap.size w V ∧ V.heap.size = w.heap.size + 1 + 1 + 1 := by
  obtain ⟨V1, hV1, a1, a2, a3, _⟩ := boxes2 w p0 p1 p2 p3 p4 z0 z1 z2 z3 z4 T U
  have s1 : V1.heap.size = w.heap.size + 1 + 1 := by rw [hV1]; simp
  have a4 := C5.new V1 x0 x1 x2 x3 x4 U'
  rw [s1] at a4
  have b1 := below_new V1 (.cells #[x0, x1, x2, x3, x4] U')
  exact ⟨V1.alloc (.cells #[x0, x1, x2, x3, x4] U'), by rw [hV1], a1.step b1, a2.step b1, a4, a3.trans (b1.mono a3.size), by simp [s1]⟩
end Go.Proofs.YtcoccegmkcdeiaaDoor


/- runs.apart walked. -/
namespace Go.Proofs.YtcoccegmkcdeiaaDoor
open Go.RowKit
set_option linter.unusedVariables false

/-- A box that is turned, and a result's place. -/
theorem boxes2c (w : World) (p0 p1 p2 p3 p4 z0 z1 z2 z3 z4 : Value) (T U : TypeId) : ∃ V, V = (w.alloc (.cells #[p0, p1, p2, p3, p4] T)).alloc (.cells #[z0, z1, z2, z3, z4] U) ∧
    C5 V w.heap.size p0 p1 p2 p3 p4 ∧ C5 V (w.heap.size + 1) z0 z1 z2 z3 z4 ∧ Below w.heap.size w V ∧ V.heap.size = w.heap.size + 2 := by
  have a1 := C5.new w p0 p1 p2 p3 p4 T
  have a2 := C5.new (w.alloc (.cells #[p0, p1, p2, p3, p4] T)) z0 z1 z2 z3 z4 U
  have s1 : (w.alloc (.cells #[p0, p1, p2, p3, p4] T)).heap.size = w.heap.size + 1 := by simp
  rw [s1] at a2
  exact ⟨_, rfl, a1.step (below_new _ _), a2, ((Below.refl _ w).alloc (Nat.le_refl _) _).alloc (by simp) _, by simp⟩
/-- What apart leaves. -/
def TellA (r : Jp.Rn) (w : World) (e : Ending) (w' : World) : Prop :=
  ∃ d B1 B2 B3 es ls, e = .returned (jv d r) ∧ Told (w.heap.size + 2) B1 B2 B3 d r es ls w' ∧ Below w.heap.size w w'
set_option maxRecDepth 100000 in
set_option maxHeartbeats 2000000 in
theorem runsApart_any {F : Nat → Prop} (d : Ad) (r : Jp.Rn) (w : World) (h : RM F w d r) (hlow : Low r) :
    Calls Tryd.prog 28 #[jv d r] w (TellA r w) := by
  obtain ⟨A0, nt, ct, R, nr, cr, S, ns, cs⟩ := d
  have H := Lib.hid h
  have HL := Lib.hid hlow
  obtain ⟨hr1, hr2, hr3⟩ := h.nr
  obtain ⟨hs1, hs2, hs3⟩ := h.ns
  have hr4 := hlow.rings
  have hs4 := hlow.rows
  have ht := hlow.tree
  simp only at hr1 hr2 hr3 hs1 hs2 hs3
  clear h hlow
  obtain ⟨V, hV, hX, hZ, hB, hsz⟩ := boxes2c w (.slice A0 nt ct) (.int .i64 r.size) (.slice R nr cr) (.slice S ns cs) (.int .u64 (r.on : Nat)) (.slice none 0 0) (.int .i64 0) (.slice none 0 0) (.slice none 0 0) (.int .u64 0) 33 33
  have E := Lib.hid hV
  have HM0 := H.out.below hB
  have htl := H.out.tlen
  simp only at htl
  have CV := Lib.hid (cloneV_any A0 nt ct r.tree V htl HM0.tree (by omega))
  have d0 := hX.b5.c0
  have X0 := Lib.hid hX
  have Z0 := Lib.hid hZ
  have B0 := Lib.hid hB
  have SZ := Lib.hid hsz
  clear hX hZ hB hsz hV HM0 htl
  unfold jv
  go_enter Tryd.func28, Tryd.ntmps28
  go_wp2_with fail
  rw [← E.out]
  clear E
  refine CV.out.mono ?_
  rintro e w1 ⟨A1, c1, rfl, hv1, hf1, hb1⟩
  have e0 := (X0.out.step hb1).b5.c0
  have f0 := (X0.out.step hb1).f0
  have hsz1 := SZ.out
  have hs1' := hb1.size
  obtain ⟨U1, hU1⟩ : ∃ U1, U1 = w1.setCell ⟨w.heap.size, 0, none⟩ (.slice A1 nt c1) := ⟨_, rfl⟩
  have EU1 := Lib.hid hU1
  have hX1 := (X0.out.step hb1).set0 (.slice A1 nt c1)
  have hZ1 := (Z0.out.step hb1).far (p := ⟨w.heap.size, 0, none⟩) (u := .slice A1 nt c1) (by simp)
  have hv1' := vrow_farj (X := w.heap.size) (j := 0) (u := .slice A1 nt c1) hv1 (fun _ ad hA => by have := hf1 ad hA; omega)
  have hB1 := (B0.out.trans (hb1.mono B0.out.size)).setCell (p := ⟨w.heap.size, 0, none⟩) (by simp) (.slice A1 nt c1)
  have hS1 : w.heap.size + 2 ≤ (w1.setCell ⟨w.heap.size, 0, none⟩ (.slice A1 nt c1)).heap.size := by simp [World.setCell]; omega
  rw [← hU1] at hX1 hZ1 hv1' hB1 hS1
  have X1 := Lib.hid hX1
  have Z1 := Lib.hid hZ1
  have V1 := Lib.hid hv1'
  have B1 := Lib.hid hB1
  have S1 := Lib.hid hS1
  have FT := Lib.hid (show From (w.heap.size + 2) A1 by rw [← hsz1]; exact hf1)
  have d2 := hX1.b5.c2
  have HM1 := H.out.below hB1
  obtain ⟨gs, hgs, hgi, _⟩ := H.out.rings
  have CG := Lib.hid (cloneG_any R nr cr gs U1 (hgs.below hB1) (by omega))
  have HGI := Lib.hid hgi
  have HGR := Lib.hid (show ∀ e ∈ gs, e.l ≠ [] → ∀ ad, e.A = some ad → ad.block ≠ w.heap.size from fun e he hne ad hA => by have := row_block (hgs.rows e he) hne hA; omega)
  clear hb1 hv1 hf1 hX1 hZ1 hv1' hB1 hS1 hU1 HM1 hgs hgi hs1' hsz1 X0 Z0 B0 CV d0
  go_wp2_with (rw [← EU1.out])
  refine CG.out.mono ?_
  rintro e w2 ⟨v2, rfl, hx2, hb2⟩
  obtain ⟨A2, c2, rfl⟩ := own_form hx2.own
  have e2 := (X1.out.step hb2).b5.c2
  have f2 := (X1.out.step hb2).f2
  obtain ⟨U2, hU2⟩ : ∃ U2, U2 = w2.setCell ⟨w.heap.size, 2, none⟩ (.slice A2 nr c2) := ⟨_, rfl⟩
  have EU2 := Lib.hid hU2
  have hgne : ∀ g, (Value.slice A2 nr c2).ownBlock = some g → g ≠ w.heap.size := fun g e => by have := (hx2.own.lt g e).1; have := S1.out; omega
  have hLG : LG w U1.heap.size nt c1 nr c2 ns cs A1 A2 S r 0 gs U2 := by
    rw [hU2]
    refine ⟨(X1.out.step hb2).set2 _, (Z1.out.step hb2).far (by simp), ?_, ⟨hx2.own.kept (grown_one w2 w.heap.size 2 (.slice A2 nr c2)) ?_, fun e he => row_farj (hx2.rows e he) ?_, hx2.apart⟩, HGI.out.symm, fun i e hi => absurd hi (by omega), (B1.out.trans (hb2.mono B1.out.size)).setCell (by simp) _, S1.out, by have := hb2.size; simp [World.setCell]; omega⟩
    · intro i z hi
      obtain ⟨b, off, e, hb1, hc, hd⟩ := V1.out i z hi
      have hne := FT.out _ e
      simp only at hne
      exact ⟨b, off, e, hb1, farcell (by omega) (keepcell hb2 hc), farcell (by omega) (keepcell hb2 hd)⟩
    · cases hob : (Value.slice A2 nr c2).ownBlock with
      | none => exact .inl rfl
      | some g => exact .inr (fun e => by injection e with e; exact hgne g hob e)
    · exact HGR.out e he
  have LG0 := Lib.hid hLG
  have d2 := hLG.box.b5.c2
  clear hb2 hx2 hU2 hLG X1 Z1 V1 B1 CG hgne
  go_wp2_with (rw [← EU2.out])
  clear EU1 EU2 e0 f0 e2 f2
  go_loopw [16] (fun i wr => ∃ k : Nat, k ≤ nr ∧ i = .int .i64 k ∧ ∃ es, Hid (LG w U1.heap.size nt c1 nr c2 ns cs A1 A2 S r k es wr)) (fun i _ => nr - (intOf i).toNat)
  case atStart => exact ⟨0, Nat.zero_le _, rfl, gs, LG0⟩
  case round =>
    clear d2 LG0
    obtain ⟨k, hk, rfl, es, HG⟩ := hrel
    have hlen := HG.out.own.len csG_len (by decide)
    by_cases hlt : k < nr
    · obtain ⟨g, cap, e1, hg1, hg2, hcap, hmax⟩ := HG.out.own.form (by omega)
      injection e1 with e11 _ e12
      subst e11 e12
      obtain ⟨e, he⟩ : ∃ e, es[k]? = some e := ⟨_, List.getElem?_eq_getElem (by omega)⟩
      have HE := Lib.hid he
      have hx := (own_slice csG_len (by decide) HG.out.own).1
      obtain ⟨b, off, e1, _, hc⟩ := hx.cell k e he
      injection e1 with e1
      injection e1 with e1 e2 e3
      subst e1 e2
      have c1' := hc 1 _ rfl
      have hrow := HG.out.own.rows e (List.mem_of_getElem? he)
      have hen : e.n ≤ 400 := by
        rw [← hrow.len]
        exact HL.out.ring (elG e) (by rw [← HG.out.is]; exact List.mem_map.2 ⟨e, List.mem_of_getElem? he, rfl⟩)
      have d2 := HG.out.box.b5.c2
      have i0 : (0 : Int) ≤ (k : Int) := by omega
      have i1 : (k : Int) < (nr : Int) := by omega
      have HR := Lib.hid hrow
      clear hc hx he hrow hr1 hs1 hlen
      have hfz : wr.frozen? ⟨g, k * 2 + 1, none⟩ = false := HG.out.own.own.frozenAt (k * 2 + 1)
      rw [Nat.zero_add] at c1'
      have hNX := fun w2 A3 n3 c3 => HG.out.next (w2 := w2) (A3 := A3) (n3 := n3) (c3 := c3) HE.out
      have NX := Lib.hid hNX
      have BX := Lib.hid HG.out.box
      have HU := Lib.hid HG.out.up
      clear hNX
      go_wp2_with fail
      refine wp_region_held_drew (S := fun w' => w'.cell? ⟨w.heap.size, 2, none⟩ = some (.slice (some ⟨g, 0, none⟩) nr c2)) (by kernel_rfl) d2 (fun hHeld => ?_)
      refine wpAnyH_takesJ (i := 0) (v := (.pointer (some ⟨w.heap.size, 2, none⟩))) (some 19) rfl rfl (by kernel_rfl) (by kernel_rfl) (by kernel_rfl) (fun _ _ _ h => h) (Or.inl ⟨by rfl, (by intro W9 hSw; (try dsimp only at hSw); go_simp; first | done | with_reducible rfl)⟩) (by assumption) ?_
      simp only [Act.put, List.setIfInBounds_toArray]; try simp only [List.set_cons_zero, List.set_cons_succ]
      refine wpAnyH_takesJ (i := 1) (v := (.slice (some ⟨g, 0, none⟩) nr c2)) (some 20) rfl rfl (by kernel_rfl) (by kernel_rfl) (by kernel_rfl) (fun _ _ _ h => h) (Or.inl ⟨by rfl, (by intro W9 hSw; (try dsimp only at hSw); go_simp; first | done | with_reducible rfl)⟩) (by assumption) ?_
      simp only [Act.put, List.setIfInBounds_toArray]; try simp only [List.set_cons_zero, List.set_cons_succ]
      refine wpAnyH_takesJ (i := 2) (v := (.int .i64 (k : Nat))) (some 21) rfl rfl (by kernel_rfl) (by kernel_rfl) (by kernel_rfl) (fun _ _ _ h => h) (Or.inl ⟨by rfl, (by intro W9 hSw; (try dsimp only at hSw); go_simp; first | done | with_reducible rfl)⟩) (by assumption) ?_
      simp only [Act.put, List.setIfInBounds_toArray]; try simp only [List.set_cons_zero, List.set_cons_succ]
      refine wpAnyH_takesJ (i := 3) (v := (.pointer (some ⟨w.heap.size, 2, none⟩))) (some 22) rfl rfl (by kernel_rfl) (by kernel_rfl) (by kernel_rfl) (fun _ _ _ h => h) (Or.inl ⟨by rfl, (by intro W9 hSw; (try dsimp only at hSw); go_simp; first | done | with_reducible rfl)⟩) (by assumption) ?_
      simp only [Act.put, List.setIfInBounds_toArray]; try simp only [List.set_cons_zero, List.set_cons_succ]
      refine wpAnyH_takesJ (i := 4) (v := (.slice (some ⟨g, 0, none⟩) nr c2)) (some 23) rfl rfl (by kernel_rfl) (by kernel_rfl) (by kernel_rfl) (fun _ _ _ h => h) (Or.inl ⟨by rfl, (by intro W9 hSw; (try dsimp only at hSw); go_simp; first | done | with_reducible rfl)⟩) (by assumption) ?_
      simp only [Act.put, List.setIfInBounds_toArray]; try simp only [List.set_cons_zero, List.set_cons_succ]
      refine wpAnyH_takesJ (i := 5) (v := (.int .i64 (k : Nat))) (some 24) rfl rfl (by kernel_rfl) (by kernel_rfl) (by kernel_rfl) (fun _ _ _ h => h) (Or.inl ⟨by rfl, (by intro W9 hSw; (try dsimp only at hSw); go_simp; first | done | with_reducible rfl)⟩) (by assumption) ?_
      simp only [Act.put, List.setIfInBounds_toArray]; try simp only [List.set_cons_zero, List.set_cons_succ]
      refine wpAnyH_takesJ (i := 6) (v := (.pointer (some ⟨g, k * 2, none⟩))) (some 25) rfl rfl (by kernel_rfl) (by kernel_rfl) (by kernel_rfl) (fun _ _ _ h => h) (Or.inl ⟨by rfl, (by intro W9 hSw; (try dsimp only at hSw); go_simp; first | done | with_reducible rfl)⟩) (by assumption) ?_
      simp only [Act.put, List.setIfInBounds_toArray]; try simp only [List.set_cons_zero, List.set_cons_succ]
      refine wpAnyH_takesJ (i := 7) (v := (.pointer (some ⟨g, k * 2 + 1, none⟩))) (some 26) rfl rfl (by kernel_rfl) (by kernel_rfl) (by kernel_rfl) (fun _ _ _ h => h) (Or.inl ⟨by rfl, (by intro W9 hSw; (try dsimp only at hSw); go_simp; first | done | with_reducible rfl)⟩) (by assumption) ?_
      simp only [Act.put, List.setIfInBounds_toArray]; try simp only [List.set_cons_zero, List.set_cons_succ]
      refine wpAnyH_ready (rs := [8]) (by kernel_rfl) (by simp) ?_
      refine AllReadyH.cons rfl (fun K hK => ?_) AllReadyH.nil
      go_simp
      refine hK.out _ _ (by exact d2) (fun hHeld => ?_)
      clear hK K
      try dsimp only
      refine wpAnyH_ready (rs := [9]) (by kernel_rfl) (by simp) ?_
      refine AllReadyH.cons rfl (fun K hK => ?_) AllReadyH.nil
      go_simp
      go_at_call 56
      refine (cloneI_any e.A e.n e.c e.l _ (by exact HR.out.drew) (by omega)).mono ?_
      rintro e' w3 ⟨v3, rfl, ho3, hb3⟩
      obtain ⟨A3, c3, rfl⟩ := own_form ho3
      have hb3' := below_of_drew hb3
      refine hK.out _ _ (by exact keepcell hb3' d2) (fun hHeld => ?_)
      have NX3 := Lib.hid (NX.out _ A3 e.n c3 hb3' ho3)
      have q1 := keepcell hb3' c1'
      have qf := keepfree hb3' c1' hfz
      clear hK K
      try dsimp only
      refine wpAnyH_takesJ (i := 10) (v := (.pointer (some ⟨g, k * 2, none⟩))) (some 29) rfl rfl (by kernel_rfl) (by kernel_rfl) (by kernel_rfl) (fun _ _ _ h => h) (Or.inl ⟨by rfl, (by intro W9 hSw; (try dsimp only at hSw); go_simp; first | done | with_reducible rfl)⟩) (by assumption) ?_
      simp only [Act.put, List.setIfInBounds_toArray]; try simp only [List.set_cons_zero, List.set_cons_succ]
      refine wpAnyH_takesJ (i := 11) (v := (.pointer (some ⟨g, k * 2 + 1, none⟩))) (some 30) rfl rfl (by kernel_rfl) (by kernel_rfl) (by kernel_rfl) (fun _ _ _ h => h) (Or.inl ⟨by rfl, (by intro W9 hSw; (try dsimp only at hSw); go_simp; first | done | with_reducible rfl)⟩) (by assumption) ?_
      simp only [Act.put, List.setIfInBounds_toArray]; try simp only [List.set_cons_zero, List.set_cons_succ]
      refine wpAnyH_ready (rs := [12]) (by kernel_rfl) (by simp) ?_
      refine AllReadyH.cons rfl (fun K hK => ?_) AllReadyH.nil
      go_simp
      have BX3 := (BX.out.step hb3').b5.c2
      have hgX : g ≠ w.heap.size := by have := S1.out; omega
      refine hK.out _ _ (by exact farcell hgX.symm BX3) (fun hHeld => ?_)
      clear hK K
      try dsimp only
      refine wpAnyH_done (by kernel_rfl) ?_ _
      obtain ⟨W4, hW4⟩ : ∃ W4, W4 = w3.setCell ⟨g, k * 2 + 1, none⟩ (.slice A3 e.n c3) := ⟨_, rfl⟩
      rw [← hW4] at NX3 ⊢
      clear hW4 ho3 hb3 hb3' q1 qf BX3 d2 c1'
      go_wp2_with fail
      go_roundw
      case rel => exact ⟨k + 1, by omega, by go_num, _, NX3⟩
      case measure => simp [intOf]; omega
    · obtain rfl : k = nr := by omega
      obtain ⟨wo, rfl⟩ : ∃ wo : World, wo = wr := ⟨_, rfl⟩
      have e3 := HG.out.box.b5.c3
      have f3 := HG.out.box.f3
      have hBo := HG.out.below
      obtain ⟨ks, hks, hki, _⟩ := H.out.rows
      have CL := Lib.hid (cloneL_any S ns cs ks wo (hks.below hBo) (by omega))
      have HKI := Lib.hid hki
      have HKR := Lib.hid (show ∀ e ∈ ks, e.l ≠ [] → ∀ ad, e.A = some ad → ad.block < w.heap.size from fun e he hne ad hA => row_block (hks.rows e he) hne hA)
      clear hks hki hBo
      go_wp2_with fail
      refine CL.out.mono ?_
      rintro e w2 ⟨v2, rfl, hx2, hb2⟩
      obtain ⟨A4, c4, rfl⟩ := own_form hx2.own
      have e3 := (HG.out.box.step hb2).b5.c3
      have f3 := (HG.out.box.step hb2).f3
      obtain ⟨U3, hU3⟩ : ∃ U3, U3 = w2.setCell ⟨w.heap.size, 3, none⟩ (.slice A4 ns c4) := ⟨_, rfl⟩
      have EU3 := Lib.hid hU3
      have hgo := grown_one w2 w.heap.size 3 (.slice A4 ns c4)
      have hup := HG.out.up
      have hlow := HG.out.low
      have hsz3 : U3.heap.size = w2.heap.size := by rw [hU3]; simp [World.setCell]
      have hle := HG.out.own.len csG_len (by decide)
      have hLL : LL w U1.heap.size wo.heap.size w2.heap.size nt c1 k c2 ns c4 A1 A2 A4 r 0 es ks U3 := by
        rw [hU3]
        refine ⟨(HG.out.box.step hb2).set3 _, (HG.out.put.step hb2).far (by simp), ?_, ⟨(HG.out.own.step hb2).own.kept hgo ?_, fun e he => row_farj ((HG.out.own.step hb2).rows e he) (fun hne ad hA => ?_), HG.out.own.apart⟩, HG.out.is, fun e he => ?_, fun g hg => (HG.out.own.own.lt g hg).2, fun e he hne ad hA => row_block (HG.out.own.rows e he) hne hA,
          ⟨hx2.own.kept hgo ?_, fun e he => row_farj (hx2.rows e he) (fun hne ad hA => by have := HKR.out e he hne ad hA; omega), hx2.apart⟩, HKI.out.symm, fun g hg => (hx2.own.lt g hg).2, fun i e hi => absurd hi (by omega), fun i j e f hi => absurd hi (by omega), (HG.out.below.trans (hb2.mono HG.out.below.size)).setCell (by simp) _, HG.out.low, hup, hb2.size, by simp [World.setCell]⟩
        · intro i z hi
          obtain ⟨b, off, e, hb1, hc, hd⟩ := HG.out.tree i z hi
          have hne := FT.out _ e
          simp only at hne
          exact ⟨b, off, e, hb1, farcell (by omega) (keepcell hb2 hc), farcell (by omega) (keepcell hb2 hd)⟩
        · cases hob : (Value.slice A2 k c2).ownBlock with
          | none => exact .inl rfl
          | some g => exact .inr (fun e => by injection e with e; have := (HG.out.own.own.lt g hob).1; omega)
        · obtain ⟨i, hi⟩ := List.mem_iff_getElem?.1 he
          have := HG.out.mine i e (by rw [← hle]; exact (List.getElem?_eq_some_iff.1 hi).1) hi ad hA
          omega
        · obtain ⟨i, hi⟩ := List.mem_iff_getElem?.1 he
          exact HG.out.mine i e (by rw [← hle]; exact (List.getElem?_eq_some_iff.1 hi).1) hi
        · cases hob : (Value.slice A4 ns c4).ownBlock with
          | none => exact .inl rfl
          | some g => exact .inr (fun e => by injection e with e; have := (hx2.own.lt g hob).1; omega)
      have LL0 := Lib.hid hLL
      have d3 := hLL.box.b5.c3
      clear hb2 hx2 hU3 hLL HG CL hgo hup hlow hsz3 hle
      go_wp2_with (rw [← EU3.out])
      clear EU3 e3 f3 
      go_loopw [39] (fun i wr => ∃ j : Nat, j ≤ ns ∧ i = .int .i64 j ∧ ∃ ls, Hid (LL w U1.heap.size wo.heap.size w2.heap.size nt c1 k c2 ns c4 A1 A2 A4 r j es ls wr)) (fun i _ => ns - (intOf i).toNat)
      case atStart => exact ⟨0, Nat.zero_le _, rfl, ks, LL0⟩
      case round =>
        clear d3 LL0
        obtain ⟨j, hj, rfl, ls, HG⟩ := hrel
        have hlen := HG.out.rows.len csL_len (by decide)
        by_cases hlj : j < ns
        · obtain ⟨g, cap, e1, hg1, hg2, hcap, hmax⟩ := HG.out.rows.form (by omega)
          injection e1 with e11 _ e12
          subst e11 e12
          obtain ⟨e, he⟩ : ∃ e, ls[j]? = some e := ⟨_, List.getElem?_eq_getElem (by omega)⟩
          have HE := Lib.hid he
          have hx := (own_slice csL_len (by decide) HG.out.rows).1
          obtain ⟨b, off, e1, _, hc⟩ := hx.cell j e he
          injection e1 with e1
          injection e1 with e1 e2 e3
          subst e1 e2
          have c1' := hc 0 _ rfl
          rw [Nat.zero_add, Nat.mul_one, Nat.add_zero] at c1'
          have hrow := HG.out.rows.rows e (List.mem_of_getElem? he)
          have hen : e.n ≤ 400 := by
            rw [← hrow.len]
            exact HL.out.row (elL e) (by rw [← HG.out.isl]; exact List.mem_map.2 ⟨e, List.mem_of_getElem? he, rfl⟩)
          have d3 := HG.out.box.b5.c3
          have i0 : (0 : Int) ≤ (j : Int) := by omega
          have i1 : (j : Int) < (ns : Int) := by omega
          have HR := Lib.hid hrow
          clear hc hx he hrow hr1 hs1 hlen
          have hfz : wr.frozen? ⟨g, j, none⟩ = false := HG.out.rows.own.frozenAt j
          have hNX := fun w2 A3 n3 c3 => HG.out.next (w2 := w2) (A3 := A3) (n3 := n3) (c3 := c3) HE.out
          have NX := Lib.hid hNX
          have BX := Lib.hid HG.out.box
          have hgX : g ≠ w.heap.size := by have := S1.out; have := HG.out.low; have := HG.out.o12; omega
          clear hNX
          go_wp2_with fail
          refine wp_region_held_drew (S := fun w' => w'.cell? ⟨w.heap.size, 3, none⟩ = some (.slice (some ⟨g, 0, none⟩) ns c4)) (by kernel_rfl) d3 (fun hHeld => ?_)
          refine wpAnyH_takesJ (i := 0) (v := (.pointer (some ⟨w.heap.size, 3, none⟩))) (some 42) rfl rfl (by kernel_rfl) (by kernel_rfl) (by kernel_rfl) (fun _ _ _ h => h) (Or.inl ⟨by rfl, (by intro W9 hSw; (try dsimp only at hSw); go_simp; first | done | with_reducible rfl)⟩) (by assumption) ?_
          simp only [Act.put, List.setIfInBounds_toArray]; try simp only [List.set_cons_zero, List.set_cons_succ]
          refine wpAnyH_takesJ (i := 1) (v := (.slice (some ⟨g, 0, none⟩) ns c4)) (some 43) rfl rfl (by kernel_rfl) (by kernel_rfl) (by kernel_rfl) (fun _ _ _ h => h) (Or.inl ⟨by rfl, (by intro W9 hSw; (try dsimp only at hSw); go_simp; first | done | with_reducible rfl)⟩) (by assumption) ?_
          simp only [Act.put, List.setIfInBounds_toArray]; try simp only [List.set_cons_zero, List.set_cons_succ]
          refine wpAnyH_takesJ (i := 2) (v := (.int .i64 (j : Nat))) (some 44) rfl rfl (by kernel_rfl) (by kernel_rfl) (by kernel_rfl) (fun _ _ _ h => h) (Or.inl ⟨by rfl, (by intro W9 hSw; (try dsimp only at hSw); go_simp; first | done | with_reducible rfl)⟩) (by assumption) ?_
          simp only [Act.put, List.setIfInBounds_toArray]; try simp only [List.set_cons_zero, List.set_cons_succ]
          refine wpAnyH_takesJ (i := 3) (v := (.pointer (some ⟨w.heap.size, 3, none⟩))) (some 45) rfl rfl (by kernel_rfl) (by kernel_rfl) (by kernel_rfl) (fun _ _ _ h => h) (Or.inl ⟨by rfl, (by intro W9 hSw; (try dsimp only at hSw); go_simp; first | done | with_reducible rfl)⟩) (by assumption) ?_
          simp only [Act.put, List.setIfInBounds_toArray]; try simp only [List.set_cons_zero, List.set_cons_succ]
          refine wpAnyH_takesJ (i := 4) (v := (.slice (some ⟨g, 0, none⟩) ns c4)) (some 46) rfl rfl (by kernel_rfl) (by kernel_rfl) (by kernel_rfl) (fun _ _ _ h => h) (Or.inl ⟨by rfl, (by intro W9 hSw; (try dsimp only at hSw); go_simp; first | done | with_reducible rfl)⟩) (by assumption) ?_
          simp only [Act.put, List.setIfInBounds_toArray]; try simp only [List.set_cons_zero, List.set_cons_succ]
          refine wpAnyH_takesJ (i := 5) (v := (.int .i64 (j : Nat))) (some 47) rfl rfl (by kernel_rfl) (by kernel_rfl) (by kernel_rfl) (fun _ _ _ h => h) (Or.inl ⟨by rfl, (by intro W9 hSw; (try dsimp only at hSw); go_simp; first | done | with_reducible rfl)⟩) (by assumption) ?_
          simp only [Act.put, List.setIfInBounds_toArray]; try simp only [List.set_cons_zero, List.set_cons_succ]
          refine wpAnyH_takesJ (i := 6) (v := (.pointer (some ⟨g, j, none⟩))) (some 48) rfl rfl (by kernel_rfl) (by kernel_rfl) (by kernel_rfl) (fun _ _ _ h => h) (Or.inl ⟨by rfl, (by intro W9 hSw; (try dsimp only at hSw); go_simp; first | done | with_reducible rfl)⟩) (by assumption) ?_
          simp only [Act.put, List.setIfInBounds_toArray]; try simp only [List.set_cons_zero, List.set_cons_succ]
          refine wpAnyH_ready (rs := [7]) (by kernel_rfl) (by simp) ?_
          refine AllReadyH.cons rfl (fun K hK => ?_) AllReadyH.nil
          go_simp
          refine hK.out _ _ (by exact d3) (fun hHeld => ?_)
          clear hK K
          try dsimp only
          refine wpAnyH_ready (rs := [8]) (by kernel_rfl) (by simp) ?_
          refine AllReadyH.cons rfl (fun K hK => ?_) AllReadyH.nil
          go_simp
          go_at_call 56
          refine (cloneI_any e.A e.n e.c e.l _ (by exact HR.out.drew) (by omega)).mono ?_
          rintro e' w3 ⟨v3, rfl, ho3, hb3⟩
          obtain ⟨A3, c3, rfl⟩ := own_form ho3
          have hb3' := below_of_drew hb3
          refine hK.out _ _ (by exact keepcell hb3' d3) (fun hHeld => ?_)
          have NX3 := Lib.hid (NX.out _ A3 e.n c3 hb3' ho3)
          have q1 := keepcell hb3' c1'
          have qf := keepfree hb3' c1' hfz
          clear hK K
          try dsimp only
          refine wpAnyH_takesJ (i := 9) (v := (.pointer (some ⟨g, j, none⟩))) (some 51) rfl rfl (by kernel_rfl) (by kernel_rfl) (by kernel_rfl) (fun _ _ _ h => h) (Or.inl ⟨by rfl, (by intro W9 hSw; (try dsimp only at hSw); go_simp; first | done | with_reducible rfl)⟩) (by assumption) ?_
          simp only [Act.put, List.setIfInBounds_toArray]; try simp only [List.set_cons_zero, List.set_cons_succ]
          refine wpAnyH_ready (rs := [10]) (by kernel_rfl) (by simp) ?_
          refine AllReadyH.cons rfl (fun K hK => ?_) AllReadyH.nil
          go_simp
          have BX3 := (BX.out.step hb3').b5.c3
          refine hK.out _ _ (by exact farcell hgX.symm BX3) (fun hHeld => ?_)
          clear hK K
          try dsimp only
          refine wpAnyH_done (by kernel_rfl) ?_ _
          obtain ⟨W4, hW4⟩ : ∃ W4, W4 = w3.setCell ⟨g, j, none⟩ (.slice A3 e.n c3) := ⟨_, rfl⟩
          rw [← hW4] at NX3 ⊢
          clear hW4 ho3 hb3 hb3' q1 qf BX3 d3 c1'
          go_wp2_with fail
          go_roundw
          case rel => exact ⟨j + 1, by omega, by go_num, _, NX3⟩
          case measure => simp [intOf]; omega
        · obtain rfl : j = ns := by omega
          have T5 := Lib.hid (HG.out.told FT.out H.out (.slice A1 nt c1) (.int .i64 r.size) (.slice A2 k c2) (.slice A4 j c4) (.int .u64 (r.on : Nat)))
          have B5h := Lib.hid (below_put (b := w.heap.size + 1) HG.out.below (by omega) (.slice A1 nt c1) (.int .i64 r.size) (.slice A2 k c2) (.slice A4 j c4) (.int .u64 (r.on : Nat)))
          have d0 := HG.out.box.b5.c0
          have d1 := HG.out.box.b5.c1
          have d2 := HG.out.box.b5.c2
          have d3 := HG.out.box.b5.c3
          have d4 := HG.out.box.b5.c4
          have y0 := HG.out.put.b5.c0
          have y1 := HG.out.put.b5.c1
          have y2 := HG.out.put.b5.c2
          have y3 := HG.out.put.b5.c3
          have y4 := HG.out.put.b5.c4
          have g0 := HG.out.put.f0
          have g1 := HG.out.put.f1
          have g2 := HG.out.put.f2
          have g3 := HG.out.put.f3
          have g4 := HG.out.put.f4
          obtain ⟨k0, k1, k2, k3, k4⟩ := put5_told HG.out.put (.slice A1 nt c1) (.int .i64 r.size) (.slice A2 k c2) (.slice A4 j c4) (.int .u64 (r.on : Nat))
          have HF := Lib.hid (show TellA r w (.returned (jv ⟨A1, nt, c1, A2, k, c2, A4, j, c4⟩ r)) (put5 wr (w.heap.size + 1) (.slice A1 nt c1) (.int .i64 r.size) (.slice A2 k c2) (.slice A4 j c4) (.int .u64 (r.on : Nat))) from ⟨_, _, _, _, _, _, rfl, T5.out, B5h.out⟩)
          unfold put5 at k0 k1 k2 k3 k4
          clear T5 B5h HG hlen hr1 hs1
          go_wp2_with fail
          refine bodyPost_ret ?_ rfl HF.out
          simp [results, Tryd.results28, go_sem, k0, k1, k2, k3, k4, jv]
end Go.Proofs.YtcoccegmkcdeiaaDoor

