/- Contracts and plain mathematics, put together by program (wip/merge.py) out of: JApart JReal. -/
import Derived.Test.YthbeldmgaioemaaDoorM6
import Derived.Test.YthbeldmgaioemaaDoorJRefMay
/- runs.apart, by its contract: the same Runs, all in memory of its own. -/
namespace Go.Proofs.YthbeldmgaioemaaDoor
open Go.RowKit
set_option linter.unusedVariables false

theorem flat_set_snd (es : List El) (i : Nat) (e : El) (A : Option Addr) (n c : Nat) (hi : es[i]? = some e) : (es.flatMap csG).set (i * 2 + 1) (.slice A n c) = (es.set i { e with A := A, n := n, c := c }).flatMap csG := by
  have hl := (List.getElem?_eq_some_iff.1 hi).1
  rw [← flat_set_two es i { e with A := A, n := n, c := c } hl]
  congr 1
  have h0 := flat_at csG_len es i e 0 hi (by decide)
  rw [Nat.add_zero] at h0
  have h1 : (csG e)[0]? = some (.int .i64 e.x) := rfl
  rw [h1] at h0
  obtain ⟨h2, h3⟩ := List.getElem?_eq_some_iff.1 h0
  apply List.ext_getElem (by simp)
  intro j hj1 hj2
  rw [List.getElem_set]
  split
  · rename_i e1; subst e1; exact h3
  · rfl
/-- An element's row turned. -/
theorem XO.setL {ty : TypeId} {W : World} {base g n cap : Nat} {es : List El} (h : XO csG 2 ty base W (.slice (some ⟨g, 0, Option.none⟩) n cap) n es) (i : Nat) (e : El) (hi : es[i]? = some e) (A : Option Addr) (m c : Nat) (hr : Row W A m c e.l) (ha : e.l ≠ [] → ∀ ad, A = some ad → ad.block ≠ g) :
    XO csG 2 ty base (W.setCell ⟨g, i * 2 + 1, Option.none⟩ (.slice A m c)) (.slice (some ⟨g, 0, Option.none⟩) n cap) n (es.set i { e with A := A, n := m, c := c }) := by
  obtain ⟨h1, hg⟩ := h.own.stored (i * 2 + 1) (.slice A m c)
  have each : ∀ e' ∈ es.set i { e with A := A, n := m, c := c }, Row W e'.A e'.n e'.c e'.l ∧ Apart (.slice (some ⟨g, 0, Option.none⟩) n cap) e' := by
    intro e' he'
    rcases List.mem_or_eq_of_mem_set he' with h' | rfl
    · exact ⟨h.rows e' h', h.apart e' h'⟩
    · exact ⟨hr, fun hne ad hA e2 => ha hne ad hA (by simp only [Value.ownBlock, Option.some.injEq] at e2; exact e2.symm)⟩
  refine ⟨by rw [← flat_set_snd es i e A m c hi]; exact h1, fun e' he' => ?_, fun e' he' => (each e' he').2⟩
  exact row_kept (each e' he').1 hg (fun hne ad hA => (each e' he').2 hne ad hA)
theorem XO.form {cs : El → List Value} {sz : Nat} {ty : TypeId} {W : World} {base n : Nat} {v : Value} {es : List El} (h : XO cs sz ty base W v n es) (hn : 0 < n) : ∃ g cap, v = .slice (some ⟨g, 0, Option.none⟩) n cap ∧ base ≤ g ∧ g < W.heap.size ∧ n ≤ cap ∧ cap ≤ 9223372036854775807 := by
  rcases h.own.2 with ⟨rfl, rfl⟩ | ⟨g, cap, cur, rfl, hb, _, h1, h2, _⟩
  · omega
  · exact ⟨g, cap, rfl, hb, (h.own.lt g rfl).2, h1, by unfold maxLen at h2; omega⟩
/-- Where the first loop stands: the first k rings' rows are its own. -/
structure LG (w : World) (B1 nt c1 nr c2 ns cs : Nat) (A1 A2 S : Option Addr) (r : Jp.Rn) (k : Nat) (es : List El) (wr : World) : Prop where
  box : C5 wr w.heap.size (.slice A1 nt c1) (.int .i64 r.size) (.slice A2 nr c2) (.slice S ns cs) (.int .u64 (r.on : Nat))
  put : C5 wr (w.heap.size + 1) (.slice none 0 0) (.int .i64 0) (.slice none 0 0) (.slice none 0 0) (.int .u64 0)
  tree : VRow wr B1 A1 r.tree
  own : XO csG 2 56 B1 wr (.slice A2 nr c2) nr es
  is : es.map elG = r.rings
  mine : ∀ i e, i < k → es[i]? = some e → From B1 e.A
  below : Below w.heap.size w wr
  low : w.heap.size + 2 ≤ B1
  up : B1 ≤ wr.heap.size
theorem LG.next {w wr w2 : World} {B1 nt c1 nr ns cs k g cap : Nat} {A1 S : Option Addr} {r : Jp.Rn} {es : List El} (h : LG w B1 nt c1 nr cap ns cs A1 (some ⟨g, 0, none⟩) S r k es wr) {e : El} (hk : es[k]? = some e) {A3 : Option Addr} {n3 c3 : Nat}
    (hb : Below wr.heap.size wr w2) (ho : w2.ownsRow wr.heap.size 3 1 (.slice A3 n3 c3) n3 (e.l.map (Value.int .i64))) :
    LG w B1 nt c1 nr cap ns cs A1 (some ⟨g, 0, none⟩) S r (k + 1) (es.set k { e with A := A3, n := n3, c := c3 }) (w2.setCell ⟨g, k * 2 + 1, none⟩ (.slice A3 n3 c3)) := by
  have hg := (h.own.own.lt g rfl)
  have hlo := h.low
  obtain ⟨A4, c4, e4, hr4, hf4⟩ := Row.of_own' ho
  injection e4 with e41 _ e42
  subst e41 e42
  have htree : VRow (w2.setCell ⟨g, k * 2 + 1, none⟩ (.slice A3 n3 c3)) B1 A1 r.tree := by
    intro i z hi
    obtain ⟨b, off, e, hb1, hc, hd⟩ := h.tree i z hi
    exact ⟨b, off, e, hb1, farcell (by omega) (keepcell hb hc), farcell (by omega) (keepcell hb hd)⟩
  refine ⟨(h.box.step hb).far (by simp only; omega), (h.put.step hb).far (by simp only; omega), htree, (h.own.step hb).setL k e hk A3 n3 c3 hr4 (fun _ ad hA => ?_), ?_, fun i e' hi he' => ?_, (h.below.trans (hb.mono h.below.size)).setCell (by simp only; omega) _, h.low, by have := h.up; have := hb.size; simp [World.setCell]; omega⟩
  · have := hf4 ad hA; omega
  · rw [List.map_set, ← h.is]
    have : elG { e with A := A3, n := n3, c := c3 } = elG e := rfl
    rw [this]
    apply List.ext_getElem? 
    intro j
    rw [List.getElem?_set]
    split
    · rename_i e1; subst e1; split
      · rw [List.getElem?_map, hk]; rfl
      · rw [List.getElem?_map, hk]; rename_i h2; exact absurd (by simpa using (List.getElem?_eq_some_iff.1 hk).1) h2
    · rfl
  · rw [List.getElem?_set] at he'
    split at he'
    · split at he'
      · injection he' with he'; subst he'; exact hf4.mono (by have := h.up; omega)
      · cases he'
    · exact h.mine i e' (by omega) he'
/-- Where the second loop stands: the first k rows are its own, and lie apart. -/
structure LL (w : World) (B1 B2 B3 nt c1 nr c2 ns c4 : Nat) (A1 A2 A4 : Option Addr) (r : Jp.Rn) (k : Nat) (es ls : List El) (wr : World) : Prop where
  box : C5 wr w.heap.size (.slice A1 nt c1) (.int .i64 r.size) (.slice A2 nr c2) (.slice A4 ns c4) (.int .u64 (r.on : Nat))
  put : C5 wr (w.heap.size + 1) (.slice none 0 0) (.int .i64 0) (.slice none 0 0) (.slice none 0 0) (.int .u64 0)
  tree : VRow wr B1 A1 r.tree
  own : XO csG 2 56 B1 wr (.slice A2 nr c2) nr es
  is : es.map elG = r.rings
  mine : ∀ e ∈ es, From B1 e.A
  gl : ∀ g, (Value.slice A2 nr c2).ownBlock = some g → g < B2
  gr : ∀ e ∈ es, e.l ≠ [] → ∀ ad, e.A = some ad → ad.block < B2
  rows : XO csL 1 44 B2 wr (.slice A4 ns c4) ns ls
  isl : ls.map elL = r.rows
  ll : ∀ g, (Value.slice A4 ns c4).ownBlock = some g → g < B3
  ours : ∀ i e, i < k → ls[i]? = some e → wr.ownsRow B3 3 1 (.slice e.A e.n e.c) e.n (e.l.map (Value.int .i64))
  far : ∀ i j e f, i < k → i ≠ j → ls[i]? = some e → ls[j]? = some f → Apart (.slice e.A e.n e.c) f
  below : Below w.heap.size w wr
  low : w.heap.size + 2 ≤ B1
  o12 : B1 ≤ B2
  o23 : B2 ≤ B3
  up : B3 ≤ wr.heap.size
theorem LL.next {w wr w2 : World} {B1 B2 B3 nt c1 nr c2 ns k g cap : Nat} {A1 A2 : Option Addr} {r : Jp.Rn} {es ls : List El} (h : LL w B1 B2 B3 nt c1 nr c2 ns cap A1 A2 (some ⟨g, 0, none⟩) r k es ls wr) {e : El} (hk : ls[k]? = some e) {A3 : Option Addr} {n3 c3 : Nat}
    (hb : Below wr.heap.size wr w2) (ho : w2.ownsRow wr.heap.size 3 1 (.slice A3 n3 c3) n3 (e.l.map (Value.int .i64))) :
    LL w B1 B2 B3 nt c1 nr c2 ns cap A1 A2 (some ⟨g, 0, none⟩) r (k + 1) es (ls.set k { e with A := A3, n := n3, c := c3 }) (w2.setCell ⟨g, k, none⟩ (.slice A3 n3 c3)) := by
  have hg := (h.rows.own.lt g rfl)
  have hg3 := h.ll g rfl
  have hlo := h.low
  have h12 := h.o12
  have h23 := h.o23
  have hup := h.up
  have hkn : k < ns := by rw [← h.rows.len csL_len (by decide)]; exact (List.getElem?_eq_some_iff.1 hk).1
  obtain ⟨A4, c4, e4, hr4, hf4⟩ := Row.of_own' ho
  injection e4 with e41 _ e42
  subst e41 e42
  have htree : VRow (w2.setCell ⟨g, k, none⟩ (.slice A3 n3 c3)) B1 A1 r.tree := by
    intro i z hi
    obtain ⟨b, off, e, hb1, hc, hd⟩ := h.tree i z hi
    exact ⟨b, off, e, hb1, farcell (by omega) (keepcell hb hc), farcell (by omega) (keepcell hb hd)⟩
  have hset := (h.rows.step hb).set1 k { e with A := A3, n := n3, c := c3 } hkn hr4 (fun hne ad hA e2 => by
    have := hf4 ad hA
    simp only [Value.ownBlock, Option.some.injEq] at e2
    omega)
  have hgrow : (w2.grownBy (w2.setCell ⟨g, k, none⟩ (.slice A3 n3 c3)) (some g)) := ((h.rows.step hb).own.stored k (.slice A3 n3 c3)).2
  refine ⟨(h.box.step hb).far (by simp only; omega), (h.put.step hb).far (by simp only; omega), htree, ?_, h.is, h.mine, h.gl, h.gr, hset, ?_, h.ll, fun i e' hi he' => ?_, fun i j e' f hi hij he' hf => ?_, (h.below.trans (hb.mono h.below.size)).setCell (by simp only; omega) _, h.low, h.o12, h.o23, by have := hb.size; simp [World.setCell]; omega⟩
  · refine ⟨(h.own.step hb).own.kept hgrow (.inr (fun e => ?_)), fun e' he' => row_farj ((h.own.step hb).rows e' he') (fun hne ad hA => ?_), h.own.apart⟩
    · have := h.gl g e; omega
    · have := h.gr e' he' hne ad hA; omega
  · rw [List.map_set, ← h.isl]
    have : elL { e with A := A3, n := n3, c := c3 } = elL e := rfl
    rw [this]
    apply List.ext_getElem? 
    intro j
    rw [List.getElem?_set]
    split
    · rename_i e1; subst e1; split
      · rw [List.getElem?_map, hk]; rfl
      · rw [List.getElem?_map, hk]; rename_i h2; exact absurd (by simpa using (List.getElem?_eq_some_iff.1 hk).1) h2
    · rfl
  · rw [List.getElem?_set] at he'
    split at he'
    · split at he'
      · injection he' with he'
        subst he'
        have ho' : w2.ownsRow B3 3 1 (.slice A3 n3 c3) n3 (e.l.map (Value.int .i64)) := zown_base' ho hup
        refine ho'.kept hgrow ?_
        cases hob : (Value.slice A3 n3 c3).ownBlock with
        | none => exact .inl rfl
        | some b => exact .inr (fun e => by injection e with e; have := (ho.lt b hob).1; omega)
      · cases he'
    · have h1 := own_below (h.ours i e' (by omega) he') hb
      refine h1.kept hgrow ?_
      cases hob : (Value.slice e'.A e'.n e'.c).ownBlock with
      | none => exact .inl rfl
      | some b => exact .inr (fun e => by injection e with e; have := (h1.lt b hob).1; omega)
  · rw [List.getElem?_set] at he' hf
    intro hne ad hA e2
    by_cases hik : k = i
    · subst hik
      rw [if_pos rfl, if_pos (by rw [h.rows.len csL_len (by decide)]; exact hkn)] at he'
      injection he' with he'
      subst he'
      rw [if_neg hij] at hf
      have h1 := row_block (h.rows.rows f (List.mem_of_getElem? hf)) hne hA
      have h2 := (ho.lt _ e2).1
      omega
    · rw [if_neg hik] at he'
      by_cases hjk : k = j
      · subst hjk
        rw [if_pos rfl, if_pos (by rw [h.rows.len csL_len (by decide)]; exact hkn)] at hf
        injection hf with hf
        subst hf
        have h1 := ((h.ours i e' (by omega) he').lt _ e2).2
        have h2 := hf4 ad hA
        omega
      · rw [if_neg hjk] at hf
        exact h.far i j e' f (by omega) hij he' hf hne ad hA e2
/-- What is told by apart: all in memory of its own; the rows' blocks lie behind all others, each by itself. -/
structure Told (B0 B1 B2 B3 : Nat) (d : Ad) (r : Jp.Rn) (es ls : List El) (W : World) : Prop where
  tlen : r.tree.length = d.nt
  tmax : d.nt ≤ 9223372036854775807
  fit : Fit r.tree
  on : r.on < 18446744073709551616
  size : In64 r.size
  tree : VRow W B1 d.T r.tree
  treeF : From B0 d.T
  own : XO csG 2 56 B1 W (.slice d.R d.nr d.cr) d.nr es
  is : es.map elG = r.rings
  mine : ∀ e ∈ es, From B1 e.A
  gl : ∀ g, (Value.slice d.R d.nr d.cr).ownBlock = some g → g < B2
  gr : ∀ e ∈ es, e.l ≠ [] → ∀ ad, e.A = some ad → ad.block < B2
  rows : XO csL 1 44 B2 W (.slice d.S d.ns d.cs) d.ns ls
  isl : ls.map elL = r.rows
  ll : ∀ g, (Value.slice d.S d.ns d.cs).ownBlock = some g → g < B3
  ours : ∀ (i : Nat) (e : El), ls[i]? = some e → W.ownsRow B3 3 1 (.slice e.A e.n e.c) e.n (e.l.map (Value.int .i64))
  far : ∀ (i j : Nat) (e f : El), i ≠ j → ls[i]? = some e → ls[j]? = some f → Apart (.slice e.A e.n e.c) f
  o01 : B0 ≤ B1
  o12 : B1 ≤ B2
  o23 : B2 ≤ B3
  up : B3 ≤ W.heap.size
theorem Told.step {B0 B1 B2 B3 : Nat} {d : Ad} {r : Jp.Rn} {es ls : List El} {W W' : World} (h : Told B0 B1 B2 B3 d r es ls W) (hb : Below W.heap.size W W') : Told B0 B1 B2 B3 d r es ls W' :=
  { h with
    tree := h.tree.below (hb.mono (Nat.le_trans h.o12 (Nat.le_trans h.o23 h.up)))
    own := h.own.step hb
    rows := h.rows.step hb
    ours := fun i e hi => own_below (h.ours i e hi) hb
    up := Nat.le_trans h.up hb.size }
theorem own_slice {cs : El → List Value} {sz : Nat} {ty : TypeId} {W : World} {base n c : Nat} {A : Option Addr} {es : List El} (hcs : ∀ e, (cs e).length = sz) (h0 : 0 < sz) (h : XO cs sz ty base W (.slice A n c) n es) : XR cs sz W A n c es ∧ From base A := by
  obtain ⟨A', c', e, h1, h2⟩ := h.xr hcs h0
  injection e with e1 _ e2
  subst e1 e2
  exact ⟨h1, h2⟩
theorem Told.rm {F : Nat → Prop} {B0 B1 B2 B3 : Nat} {d : Ad} {r : Jp.Rn} {es ls : List El} {W w0 : World} (h : Told B0 B1 B2 B3 d r es ls W) (h0 : w0.heap.size ≤ B0) : RM (More F w0) W d r := by
  obtain ⟨x1, f1⟩ := own_slice csG_len (by decide) h.own
  obtain ⟨x2, f2⟩ := own_slice csL_len (by decide) h.rows
  have h01 := h.o01
  have h12 := h.o12
  have h23 := h.o23
  refine ⟨h.tlen, h.tmax, h.fit, h.tree.more (by have := h.up; omega), fun _ ad hA => .inr (by have := h.treeF ad hA; omega), ⟨es, x1, h.is.symm, fun _ ad hA => .inr (by have := f1 ad hA; omega), fun e he _ ad hA => .inr (by have := h.mine e he ad hA; omega)⟩, ⟨ls, x2, h.isl.symm, fun _ ad hA => .inr (by have := f2 ad hA; omega), fun e he hne ad hA => .inr ?_⟩, h.on, h.size⟩
  obtain ⟨i, hi⟩ := List.mem_iff_getElem?.1 he
  obtain ⟨_, _, e1, _, h3⟩ := Row.of_own' (h.ours i e hi)
  injection e1 with e1
  subst e1
  have := h3 ad hA
  omega
theorem grown_one (W : World) (X j : Nat) (u : Value) : W.grownBy (W.setCell ⟨X, j, none⟩ u) (some X) := ⟨rfl, rfl, rfl, by simp [World.setCell], fun k _ hk => Below.heap_setCell _ _ _ _ (fun e => hk (by simp [e]))⟩
theorem grown_put5 (W : World) (X : Nat) (u0 u1 u2 u3 u4 : Value) : W.grownBy (put5 W X u0 u1 u2 u3 u4) (some X) :=
  ((((grown_one W X 0 u0).trans (grown_one _ X 1 u1)).trans (grown_one _ X 2 u2)).trans (grown_one _ X 3 u3)).trans (grown_one _ X 4 u4)
theorem LL.told {F : Nat → Prop} {w wr : World} {B1 B2 B3 nt ct c1 nr cr c2 ns cs c4 : Nat} {A0 A1 R A2 S A4 : Option Addr} {r : Jp.Rn} {es ls : List El} (h : LL w B1 B2 B3 nt c1 nr c2 ns c4 A1 A2 A4 r ns es ls wr) (hT : From (w.heap.size + 2) A1) (H : RM F w ⟨A0, nt, ct, R, nr, cr, S, ns, cs⟩ r) (u0 u1 u2 u3 u4 : Value) :
    Told (w.heap.size + 2) B1 B2 B3 ⟨A1, nt, c1, A2, nr, c2, A4, ns, c4⟩ r es ls (put5 wr (w.heap.size + 1) u0 u1 u2 u3 u4) := by
  have hlo := h.low
  have h12 := h.o12
  have h23 := h.o23
  have hup := h.up
  have hns : ls.length = ns := h.rows.len csL_len (by decide)
  have hg := grown_put5 wr (w.heap.size + 1) u0 u1 u2 u3 u4
  have nb : ∀ {v : Value} {B : Nat}, (∀ b, v.ownBlock = some b → w.heap.size + 2 ≤ b) → v.ownBlock = none ∨ v.ownBlock ≠ some (w.heap.size + 1) := fun {v B} hv => by
    cases hob : v.ownBlock with
    | none => exact .inl rfl
    | some b => exact .inr (fun e => by injection e with e; have := hv b hob; omega)
  have fr : ∀ {l : List Int} {A : Option Addr}, From (w.heap.size + 2) A → l ≠ [] → ∀ ad, A = some ad → some (w.heap.size + 1) ≠ some ad.block := fun {l A} hf _ ad hA e => by injection e with e; have := hf ad hA; omega
  have rf : ∀ (i : Nat) e, ls[i]? = some e → From B3 e.A := fun i e hi => by
    obtain ⟨_, _, e1, _, h3⟩ := Row.of_own' (h.ours i e (by rw [← hns]; exact (List.getElem?_eq_some_iff.1 hi).1) hi)
    injection e1 with e1
    subst e1
    exact h3
  refine ⟨H.tlen, H.tmax, H.fit, H.on, H.size, ?_, hT, ⟨h.own.own.kept hg (nb (B := 0) (fun b hb => by have := (h.own.own.lt b hb).1; omega)), fun e he => row_kept (h.own.rows e he) hg (fr ((h.mine e he).mono (by omega))), h.own.apart⟩, h.is, h.mine, h.gl, h.gr,
    ⟨h.rows.own.kept hg (nb (B := 0) (fun b hb => by have := (h.rows.own.lt b hb).1; omega)), fun e he => ?_, h.rows.apart⟩, h.isl, h.ll, fun i e hi => ?_, fun i j e f hij hi hj => h.far i j e f (by rw [← hns]; exact (List.getElem?_eq_some_iff.1 hi).1) hij hi hj, h.low, h.o12, h.o23, Nat.le_trans hup hg.size⟩
  · intro i z hi
    obtain ⟨b, off, e, hb1, hc, hd⟩ := h.tree i z hi
    have := hT _ e
    simp only at this
    exact ⟨b, off, e, hb1, hg.cell hc (fun e => by injection e with e; simp only at e; omega), hg.cell hd (fun e => by injection e with e; simp only at e; omega)⟩
  · obtain ⟨i, hi⟩ := List.mem_iff_getElem?.1 he
    exact row_kept (h.rows.rows e he) hg (fr ((rf i e hi).mono (by omega)))
  · exact (h.ours i e (by rw [← hns]; exact (List.getElem?_eq_some_iff.1 hi).1) hi).kept hg (nb (B := 0) (fun b hb => by have := ((h.ours i e (by rw [← hns]; exact (List.getElem?_eq_some_iff.1 hi).1) hi).lt b hb).1; omega))
end Go.Proofs.YthbeldmgaioemaaDoor


/- The law's real, by its contract: the same Runs, the rings in a row of its own. -/
namespace Go.Proofs.YthbeldmgaioemaaDoor
open Go.RowKit
set_option linter.unusedVariables false

/-- A box, a result's place, and a variable. -/
theorem boxes3v (w : World) (p0 p1 p2 p3 p4 z0 z1 z2 z3 z4 x0 x1 x2 x3 x4 : Value) (T U U' : TypeId) : ∃ V, V = ((w.alloc (.cells #[p0, p1, p2, p3, p4] T)).alloc (.cells #[z0, z1, z2, z3, z4] U)).alloc (.cells #[x0, x1, x2, x3, x4] U') ∧
    B5 V w.heap.size p0 p1 p2 p3 p4 ∧ C5 V (w.heap.size + 1) z0 z1 z2 z3 z4 ∧ C5 V (w.heap.size + 1 + 1) x0 x1 x2 x3 x4 ∧ Below w.heap.size w V ∧ V.heap.size = w.heap.size + 1 + 1 + 1 := by
  obtain ⟨V1, hV1, a1, a2, a3, _⟩ := boxes2 w p0 p1 p2 p3 p4 z0 z1 z2 z3 z4 T U
  have s1 : V1.heap.size = w.heap.size + 1 + 1 := by rw [hV1]; simp
  have a4 := C5.new V1 x0 x1 x2 x3 x4 U'
  rw [s1] at a4
  have b1 := below_new V1 (.cells #[x0, x1, x2, x3, x4] U')
  exact ⟨V1.alloc (.cells #[x0, x1, x2, x3, x4] U'), by rw [hV1], a1.step b1, a2.step b1, a4, a3.trans (b1.mono a3.size), by simp [s1]⟩
set_option maxRecDepth 100000 in
set_option maxHeartbeats 2000000 in
theorem jreal_any {F : Nat → Prop} (d : Ad) (r : Jp.Rn) (w : World) (h : RM F w d r) (hF : ∀ b, F b → b < w.heap.size) (hlow : Low r) :
    Calls Tryd.prog 17 #[jv d r] w (TellJ F w r) := by
  obtain ⟨A0, nt, ct, R, nr, cr, S, ns, cs⟩ := d
  obtain ⟨gs, hgs, hge, hgl⟩ := h.rings
  have H := Lib.hid h
  have HFW := Lib.hid hF
  have HGS := Lib.hid hgs
  have HGE := Lib.hid hge
  have HGL := Lib.hid hgl
  obtain ⟨hr1, hr2, hr3⟩ := h.nr
  have hr4 := hlow.rings
  simp only at hr1 hr2 hr3
  have hgn : gs.length = nr := by rw [← hr1, hge, List.length_map]
  clear h hF hlow hgs hge hgl
  obtain ⟨V, hV, hX, hZ, hO, hB, hsz⟩ := boxes3v w (.slice A0 nt ct) (.int .i64 r.size) (.slice R nr cr) (.slice S ns cs) (.int .u64 (r.on : Nat)) (.slice none 0 0) (.int .i64 0) (.slice none 0 0) (.slice none 0 0) (.int .u64 0) (.slice A0 nt ct) (.int .i64 r.size) (.slice none 0 0) (.slice S ns cs) (.int .u64 (r.on : Nat)) 33 27 27
  have E := Lib.hid hV
  have X0 := Lib.hid hX
  have Z0 := Lib.hid hZ
  have O0 := Lib.hid hO
  have B0 := Lib.hid hB
  have SZ := Lib.hid hsz
  clear hV hX hZ hO hB hsz
  unfold jv
  go_enter Tryd.func17, Tryd.ntmps17
  go_wp2_with (rw [← E.out])
  clear E
  go_loopw [4] (fun i wr => ∃ k : Nat, k ≤ nr ∧ i = .int .i64 k ∧ ∃ v, Hid (XO csG 2 55 V.heap.size wr v k (gs.take k)) ∧ Hid (C5 wr (w.heap.size + 1 + 1) (.slice A0 nt ct) (.int .i64 r.size) v (.slice S ns cs) (.int .u64 (r.on : Nat))) ∧ Hid (C5 wr (w.heap.size + 1) (.slice none 0 0) (.int .i64 0) (.slice none 0 0) (.slice none 0 0) (.int .u64 0)) ∧ Hid (B5 wr w.heap.size (.slice A0 nt ct) (.int .i64 r.size) (.slice R nr cr) (.slice S ns cs) (.int .u64 (r.on : Nat))) ∧ Hid (Below w.heap.size w wr) ∧ Hid (V.heap.size ≤ wr.heap.size)) (fun i _ => nr - (intOf i).toNat)
  case atStart => exact ⟨0, Nat.zero_le _, rfl, _, Lib.hid (XO.none _ _), O0, Z0, X0, B0, Lib.hid (Nat.le_refl _)⟩
  case round =>
    obtain ⟨k, hk, rfl, v, XK, OK, ZK, PK, BK, HVB⟩ := hrel
    have d2 := PK.out.c2
    have o2 := OK.out.b5.c2
    have q2 := OK.out.f2
    obtain ⟨vA, vc, rfl⟩ := own_form XK.out.own
    by_cases hlt : k < nr
    · obtain ⟨e, he⟩ : ∃ e, gs[k]? = some e := ⟨_, List.getElem?_eq_getElem (by omega)⟩
      obtain ⟨b, off, rfl, hbw, hc⟩ := HGS.out.cells (by omega)
      have c0 := keepcell BK.out (hc k e he 0 _ rfl)
      have c1 := keepcell BK.out (hc k e he 1 _ rfl)
      rw [Nat.add_zero] at c0
      have hre := HGS.out.rows e (List.mem_of_getElem? he)
      have HRE := Lib.hid (hre.below BK.out)
      have HE := Lib.hid he
      have i0 : (0 : Int) ≤ (k : Int) := by omega
      have i1 : (k : Int) < (nr : Int) := by omega
      clear he hre hc
      go_wp2_with fail
      refine wp_region_held_drew (S := fun w' => w'.cell? ⟨w.heap.size, 2, none⟩ = some (.slice (some ⟨b, off, none⟩) nr cr) ∧ w'.cell? ⟨b, off + k * 2, none⟩ = some (.int .i64 e.x) ∧ w'.cell? ⟨b, off + k * 2 + 1, none⟩ = some (.slice e.A e.n e.c)) (by kernel_rfl) ⟨d2, c0, c1⟩ (fun hHeld => ?_)
      refine wpAnyH_takesJ (i := 0) (v := (.pointer (some ⟨w.heap.size + 1 + 1, 2, none⟩))) (some 21) rfl rfl (by kernel_rfl) (by kernel_rfl) (by kernel_rfl) (fun _ _ _ h => h) (Or.inl ⟨by rfl, (by intro W9 hSw; (try dsimp only at hSw); go_simp; first | done | with_reducible rfl)⟩) (by assumption) ?_
      simp only [Act.put, List.setIfInBounds_toArray]; try simp only [List.set_cons_zero, List.set_cons_succ]
      refine wpAnyH_takesJ (i := 2) (v := (.pointer (some ⟨w.heap.size, 2, none⟩))) (some 23) rfl rfl (by kernel_rfl) (by kernel_rfl) (by kernel_rfl) (fun _ _ _ h => h) (Or.inl ⟨by rfl, (by intro W9 hSw; (try dsimp only at hSw); go_simp; first | done | with_reducible rfl)⟩) (by assumption) ?_
      simp only [Act.put, List.setIfInBounds_toArray]; try simp only [List.set_cons_zero, List.set_cons_succ]
      refine wpAnyH_takesJ (i := 3) (v := (.slice (some ⟨b, off, none⟩) nr cr)) (some 24) rfl rfl (by kernel_rfl) (by kernel_rfl) (by kernel_rfl) (fun _ _ _ h => h) (Or.inl ⟨by rfl, (by intro W9 hSw; (try dsimp only at hSw); go_simp; first | done | with_reducible rfl)⟩) (by assumption) ?_
      simp only [Act.put, List.setIfInBounds_toArray]; try simp only [List.set_cons_zero, List.set_cons_succ]
      refine wpAnyH_takesJ (i := 4) (v := (.int .i64 (k : Nat))) (some 25) rfl rfl (by kernel_rfl) (by kernel_rfl) (by kernel_rfl) (fun _ _ _ h => h) (Or.inl ⟨by rfl, (by intro W9 hSw; (try dsimp only at hSw); go_simp; first | done | with_reducible rfl)⟩) (by assumption) ?_
      simp only [Act.put, List.setIfInBounds_toArray]; try simp only [List.set_cons_zero, List.set_cons_succ]
      refine wpAnyH_takesJ (i := 5) (v := (.pointer (some ⟨b, off + k * 2, none⟩))) (some 26) rfl rfl (by kernel_rfl) (by kernel_rfl) (by kernel_rfl) (fun _ _ _ h => h) (Or.inl ⟨by rfl, (by intro W9 hSw; (try dsimp only at hSw); go_simp; first | done | with_reducible rfl)⟩) (by assumption) ?_
      simp only [Act.put, List.setIfInBounds_toArray]; try simp only [List.set_cons_zero, List.set_cons_succ]
      refine wpAnyH_takesJ (i := 6) (v := (.pointer (some ⟨b, off + k * 2, none⟩))) (some 27) rfl rfl (by kernel_rfl) (by kernel_rfl) (by kernel_rfl) (fun _ _ _ h => h) (Or.inl ⟨by rfl, (by intro W9 hSw; (try dsimp only at hSw); go_simp; first | done | with_reducible rfl)⟩) (by assumption) ?_
      simp only [Act.put, List.setIfInBounds_toArray]; try simp only [List.set_cons_zero, List.set_cons_succ]
      refine wpAnyH_takesJ (i := 7) (v := (.int .i64 e.x)) (some 28) rfl rfl (by kernel_rfl) (by kernel_rfl) (by kernel_rfl) (fun _ _ _ h => h) (Or.inl ⟨by rfl, (by intro W9 hSw; (try dsimp only at hSw); go_simp; first | done | with_reducible rfl)⟩) (by assumption) ?_
      simp only [Act.put, List.setIfInBounds_toArray]; try simp only [List.set_cons_zero, List.set_cons_succ]
      refine wpAnyH_takesJ (i := 8) (v := (.pointer (some ⟨w.heap.size, 2, none⟩))) (some 29) rfl rfl (by kernel_rfl) (by kernel_rfl) (by kernel_rfl) (fun _ _ _ h => h) (Or.inl ⟨by rfl, (by intro W9 hSw; (try dsimp only at hSw); go_simp; first | done | with_reducible rfl)⟩) (by assumption) ?_
      simp only [Act.put, List.setIfInBounds_toArray]; try simp only [List.set_cons_zero, List.set_cons_succ]
      refine wpAnyH_takesJ (i := 9) (v := (.slice (some ⟨b, off, none⟩) nr cr)) (some 30) rfl rfl (by kernel_rfl) (by kernel_rfl) (by kernel_rfl) (fun _ _ _ h => h) (Or.inl ⟨by rfl, (by intro W9 hSw; (try dsimp only at hSw); go_simp; first | done | with_reducible rfl)⟩) (by assumption) ?_
      simp only [Act.put, List.setIfInBounds_toArray]; try simp only [List.set_cons_zero, List.set_cons_succ]
      refine wpAnyH_takesJ (i := 10) (v := (.int .i64 (k : Nat))) (some 31) rfl rfl (by kernel_rfl) (by kernel_rfl) (by kernel_rfl) (fun _ _ _ h => h) (Or.inl ⟨by rfl, (by intro W9 hSw; (try dsimp only at hSw); go_simp; first | done | with_reducible rfl)⟩) (by assumption) ?_
      simp only [Act.put, List.setIfInBounds_toArray]; try simp only [List.set_cons_zero, List.set_cons_succ]
      refine wpAnyH_takesJ (i := 11) (v := (.pointer (some ⟨b, off + k * 2, none⟩))) (some 32) rfl rfl (by kernel_rfl) (by kernel_rfl) (by kernel_rfl) (fun _ _ _ h => h) (Or.inl ⟨by rfl, (by intro W9 hSw; (try dsimp only at hSw); go_simp; first | done | with_reducible rfl)⟩) (by assumption) ?_
      simp only [Act.put, List.setIfInBounds_toArray]; try simp only [List.set_cons_zero, List.set_cons_succ]
      refine wpAnyH_takesJ (i := 12) (v := (.pointer (some ⟨b, off + k * 2 + 1, none⟩))) (some 33) rfl rfl (by kernel_rfl) (by kernel_rfl) (by kernel_rfl) (fun _ _ _ h => h) (Or.inl ⟨by rfl, (by intro W9 hSw; (try dsimp only at hSw); go_simp; first | done | with_reducible rfl)⟩) (by assumption) ?_
      simp only [Act.put, List.setIfInBounds_toArray]; try simp only [List.set_cons_zero, List.set_cons_succ]
      refine wpAnyH_takesJ (i := 13) (v := (.slice e.A e.n e.c)) (some 34) rfl rfl (by kernel_rfl) (by kernel_rfl) (by kernel_rfl) (fun _ _ _ h => h) (Or.inl ⟨by rfl, (by intro W9 hSw; (try dsimp only at hSw); go_simp; first | done | with_reducible rfl)⟩) (by assumption) ?_
      simp only [Act.put, List.setIfInBounds_toArray]; try simp only [List.set_cons_zero, List.set_cons_succ]
      refine wpAnyH_takesJ (i := 14) (v := (.agg #[.int .i64 e.x, .slice e.A e.n e.c])) (some 35) rfl rfl (by kernel_rfl) (by kernel_rfl) (by kernel_rfl) (fun _ _ _ h => h) (Or.inl ⟨by rfl, (by intro W9 hSw; (try dsimp only at hSw); go_simp; first | done | with_reducible rfl)⟩) (by assumption) ?_
      simp only [Act.put, List.setIfInBounds_toArray]; try simp only [List.set_cons_zero, List.set_cons_succ]
      refine wpAnyH_ready (rs := [1, 15]) (by kernel_rfl) (by simp) ?_
      refine AllReadyH.cons rfl (fun K hK => ?_) (AllReadyH.cons rfl (fun K hK => ?_) AllReadyH.nil)
      · go_simp
        refine hK.out _ _ (by exact ⟨d2, c0, c1⟩) (fun hHeld => ?_)
        clear hK K
        try dsimp only
        refine wpAnyH_ready (rs := [15]) (by kernel_rfl) (by simp) ?_
        refine AllReadyH.cons rfl (fun K hK => ?_) AllReadyH.nil
        go_simp
        have hb2 : Below wr.heap.size wr ((wr.alloc (.cells #[.int .i64 e.x, .slice e.A e.n e.c] 55)).drew) := (below_new wr _).drew
        have O2 := OK.out.step hb2
        have Z2 := ZK.out.step hb2
        have P2 := PK.out.step hb2
        have B2 := held_trans BK.out hb2
        have c02 := keepcell hb2 c0
        have c12 := keepcell hb2 c1
        have XK2 := XK.out.step hb2
        have hnews : ∀ j u, ([e].flatMap csG)[j]? = some u → ((wr.alloc (.cells #[.int .i64 e.x, .slice e.A e.n e.c] 55)).drew).cell? ((⟨wr.heap.size, 0, none⟩ : Addr).add j) = some u := one_new (T := 55) wr e
        have hrow1 : ∀ e' ∈ [e], Row ((wr.alloc (.cells #[.int .i64 e.x, .slice e.A e.n e.c] 55)).drew) e'.A e'.n e'.c e'.l := fun e' he' => by rw [List.mem_singleton.1 he']; exact HRE.out.below hb2
        have hap1 : ∀ e' ∈ [e], Apart (.slice vA k vc) e' := fun e' he' hne ad hA ho => by
          rw [List.mem_singleton.1 he'] at hne hA
          have := HFW.out _ (HGL.out.2 e (List.mem_of_getElem? HE.out) hne ad hA)
          have := (XK.out.own.lt _ ho).1
          have := SZ.out
          omega
        have hbs : V.heap.size ≤ ((wr.alloc (.cells #[.int .i64 e.x, .slice e.A e.n e.c] 55)).drew).heap.size := by have h1 := hb2.size; have h2 := HVB.out; omega
        refine hK.out _ _ (by exact ⟨P2.c2, c02, c12⟩) (fun hHeld => ?_)
        clear hK K
        try dsimp only
        refine wpAnyH_ready (rs := [16]) (by kernel_rfl) (by simp) ?_
        refine AllReadyH.cons rfl (fun K hK => ?_) AllReadyH.nil
        refine step_append_rring (by rfl) (.tmp 22) (.tmp 36) (by rfl) V.heap.size (.slice vA k vc) k (gs.take k) (by exact XK2) (by rfl) ⟨wr.heap.size, 0, none⟩ 1 1 [e] (by rfl) rfl (by exact hnews) (by exact hrow1) (by exact hap1) (by decide) (by omega) (by exact hbs) ?_
        intro g cap w' hx hg
        have hgb := hx.own.lt g rfl
        have hgk : ∀ j, (Value.slice vA k vc).ownBlock = some j → V.heap.size ≤ j := fun j hj => (XK.out.own.lt j hj).1
        have hne : ∀ j, j < w.heap.size + 1 + 1 + 1 → some j ≠ (Value.slice vA k vc).ownBlock := fun j hj e => by
          have := hgk j e.symm
          have := SZ.out
          omega
        have O3 := O2.grown hg (hne _ (by omega))
        have Z3 := Z2.grown hg (hne _ (by omega))
        have P3 := P2.grown hg (hne _ (by omega))
        have c03 := hg.cell c02 (hne b (by omega))
        have c13 := hg.cell c12 (hne b (by omega))
        have B3 := B2.grown hg B2.size (fun j hj => by have := hgk j hj; have := SZ.out; omega)
        refine hK.out _ _ (by exact ⟨P3.c2, c03, c13⟩) (fun hHeld => ?_)
        clear hK K
        try dsimp only
        refine wpAnyH_takesJ (i := 17) (v := (.pointer (some ⟨w.heap.size + 1 + 1, 2, none⟩))) (some 38) rfl rfl (by kernel_rfl) (by kernel_rfl) (by kernel_rfl) (fun _ _ _ h => h) (Or.inl ⟨by rfl, (by intro W9 hSw; (try dsimp only at hSw); go_simp; first | done | with_reducible rfl)⟩) (by assumption) ?_
        simp only [Act.put, List.setIfInBounds_toArray]; try simp only [List.set_cons_zero, List.set_cons_succ]
        have o23 := O3.b5.c2
        have q23 := O3.f2
        refine wpAnyH_ready (rs := [18]) (by kernel_rfl) (by simp) ?_
        refine AllReadyH.cons rfl (fun K hK => ?_) AllReadyH.nil
        go_simp
        have hrb : ∀ e' ∈ gs.take k ++ [e], e'.l ≠ [] → ∀ ad, e'.A = some ad → ad.block < w.heap.size := fun e' he' hne ad hA => by
          rcases List.mem_append.1 he' with h' | h'
          · exact HFW.out _ (HGL.out.2 e' (List.mem_of_mem_take h') hne ad hA)
          · rw [List.mem_singleton.1 h'] at hne hA
            exact HFW.out _ (HGL.out.2 e (List.mem_of_getElem? HE.out) hne ad hA)
        have XK4 := Lib.hid (show XO csG 2 55 V.heap.size (w'.setCell ⟨w.heap.size + 1 + 1, 2, none⟩ (.slice (some ⟨g, 0, none⟩) (k + 1) cap)) (.slice (some ⟨g, 0, none⟩) (k + 1) cap) (k + 1) (gs.take (k + 1)) from by
          rw [List.take_add_one, HE.out]
          exact hx.far (X := w.heap.size + 1 + 1) (j := 2) (u := .slice (some ⟨g, 0, none⟩) (k + 1) cap) (by have := SZ.out; omega) (fun e' he' hne ad hA => by have := hrb e' he' hne ad hA; omega))
        have O4 := Lib.hid (O3.set2 (.slice (some ⟨g, 0, none⟩) (k + 1) cap))
        have Z4 := Lib.hid (Z3.far (p := ⟨w.heap.size + 1 + 1, 2, none⟩) (u := .slice (some ⟨g, 0, none⟩) (k + 1) cap) (by simp only; omega))
        have P4 := Lib.hid (P3.far (p := ⟨w.heap.size + 1 + 1, 2, none⟩) (u := .slice (some ⟨g, 0, none⟩) (k + 1) cap) (by simp only; omega))
        have B4 := Lib.hid (B3.setCell (p := ⟨w.heap.size + 1 + 1, 2, none⟩) (by simp only; omega) (.slice (some ⟨g, 0, none⟩) (k + 1) cap))
        refine hK.out _ _ (by exact ⟨P4.out.c2, farcell (by omega) c03, farcell (by omega) c13⟩) (fun hHeld => ?_)
        clear hK K
        try dsimp only
        refine wpAnyH_done (by kernel_rfl) ?_ _
        have HV4 := Lib.hid (show V.heap.size ≤ (w'.setCell ⟨w.heap.size + 1 + 1, 2, none⟩ (.slice (some ⟨g, 0, none⟩) (k + 1) cap)).heap.size from by have := hgb; simp [World.setCell]; omega)
        clear hx hg O3 Z3 P3 c03 c13 B3 O2 Z2 P2 c02 c12 B2 XK2 hnews hrow1 hap1 hbs o23 q23 o2 q2 c0 c1 d2 hHeld hrb hne hgk
        go_wp2_with fail
        go_roundw
        case rel => exact ⟨k + 1, by omega, by go_num, _, XK4, O4, Z4, P4, B4, HV4⟩
        case measure => simp [intOf]; omega
      · go_simp
        have hb2 : Below wr.heap.size wr ((wr.alloc (.cells #[.int .i64 e.x, .slice e.A e.n e.c] 55)).drew) := (below_new wr _).drew
        have O2 := OK.out.step hb2
        have Z2 := ZK.out.step hb2
        have P2 := PK.out.step hb2
        have B2 := held_trans BK.out hb2
        have c02 := keepcell hb2 c0
        have c12 := keepcell hb2 c1
        have XK2 := XK.out.step hb2
        have hnews : ∀ j u, ([e].flatMap csG)[j]? = some u → ((wr.alloc (.cells #[.int .i64 e.x, .slice e.A e.n e.c] 55)).drew).cell? ((⟨wr.heap.size, 0, none⟩ : Addr).add j) = some u := one_new (T := 55) wr e
        have hrow1 : ∀ e' ∈ [e], Row ((wr.alloc (.cells #[.int .i64 e.x, .slice e.A e.n e.c] 55)).drew) e'.A e'.n e'.c e'.l := fun e' he' => by rw [List.mem_singleton.1 he']; exact HRE.out.below hb2
        have hap1 : ∀ e' ∈ [e], Apart (.slice vA k vc) e' := fun e' he' hne ad hA ho => by
          rw [List.mem_singleton.1 he'] at hne hA
          have := HFW.out _ (HGL.out.2 e (List.mem_of_getElem? HE.out) hne ad hA)
          have := (XK.out.own.lt _ ho).1
          have := SZ.out
          omega
        have hbs : V.heap.size ≤ ((wr.alloc (.cells #[.int .i64 e.x, .slice e.A e.n e.c] 55)).drew).heap.size := by have h1 := hb2.size; have h2 := HVB.out; omega
        have o22 := O2.b5.c2
        refine hK.out _ _ (by exact ⟨P2.c2, c02, c12⟩) (fun hHeld => ?_)
        clear hK K
        try dsimp only
        refine wpAnyH_ready (rs := [1]) (by kernel_rfl) (by simp) ?_
        refine AllReadyH.cons rfl (fun K hK => ?_) AllReadyH.nil
        go_simp
        refine hK.out _ _ (by exact ⟨P2.c2, c02, c12⟩) (fun hHeld => ?_)
        clear hK K o22
        try dsimp only
        refine wpAnyH_ready (rs := [16]) (by kernel_rfl) (by simp) ?_
        refine AllReadyH.cons rfl (fun K hK => ?_) AllReadyH.nil
        refine step_append_rring (by rfl) (.tmp 22) (.tmp 36) (by rfl) V.heap.size (.slice vA k vc) k (gs.take k) (by exact XK2) (by rfl) ⟨wr.heap.size, 0, none⟩ 1 1 [e] (by rfl) rfl (by exact hnews) (by exact hrow1) (by exact hap1) (by decide) (by omega) (by exact hbs) ?_
        intro g cap w' hx hg
        have hgb := hx.own.lt g rfl
        have hgk : ∀ j, (Value.slice vA k vc).ownBlock = some j → V.heap.size ≤ j := fun j hj => (XK.out.own.lt j hj).1
        have hne : ∀ j, j < w.heap.size + 1 + 1 + 1 → some j ≠ (Value.slice vA k vc).ownBlock := fun j hj e => by
          have := hgk j e.symm
          have := SZ.out
          omega
        have O3 := O2.grown hg (hne _ (by omega))
        have Z3 := Z2.grown hg (hne _ (by omega))
        have P3 := P2.grown hg (hne _ (by omega))
        have c03 := hg.cell c02 (hne b (by omega))
        have c13 := hg.cell c12 (hne b (by omega))
        have B3 := B2.grown hg B2.size (fun j hj => by have := hgk j hj; have := SZ.out; omega)
        refine hK.out _ _ (by exact ⟨P3.c2, c03, c13⟩) (fun hHeld => ?_)
        clear hK K
        try dsimp only
        refine wpAnyH_takesJ (i := 17) (v := (.pointer (some ⟨w.heap.size + 1 + 1, 2, none⟩))) (some 38) rfl rfl (by kernel_rfl) (by kernel_rfl) (by kernel_rfl) (fun _ _ _ h => h) (Or.inl ⟨by rfl, (by intro W9 hSw; (try dsimp only at hSw); go_simp; first | done | with_reducible rfl)⟩) (by assumption) ?_
        simp only [Act.put, List.setIfInBounds_toArray]; try simp only [List.set_cons_zero, List.set_cons_succ]
        have o23 := O3.b5.c2
        have q23 := O3.f2
        refine wpAnyH_ready (rs := [18]) (by kernel_rfl) (by simp) ?_
        refine AllReadyH.cons rfl (fun K hK => ?_) AllReadyH.nil
        go_simp
        have hrb : ∀ e' ∈ gs.take k ++ [e], e'.l ≠ [] → ∀ ad, e'.A = some ad → ad.block < w.heap.size := fun e' he' hne ad hA => by
          rcases List.mem_append.1 he' with h' | h'
          · exact HFW.out _ (HGL.out.2 e' (List.mem_of_mem_take h') hne ad hA)
          · rw [List.mem_singleton.1 h'] at hne hA
            exact HFW.out _ (HGL.out.2 e (List.mem_of_getElem? HE.out) hne ad hA)
        have XK4 := Lib.hid (show XO csG 2 55 V.heap.size (w'.setCell ⟨w.heap.size + 1 + 1, 2, none⟩ (.slice (some ⟨g, 0, none⟩) (k + 1) cap)) (.slice (some ⟨g, 0, none⟩) (k + 1) cap) (k + 1) (gs.take (k + 1)) from by
          rw [List.take_add_one, HE.out]
          exact hx.far (X := w.heap.size + 1 + 1) (j := 2) (u := .slice (some ⟨g, 0, none⟩) (k + 1) cap) (by have := SZ.out; omega) (fun e' he' hne ad hA => by have := hrb e' he' hne ad hA; omega))
        have O4 := Lib.hid (O3.set2 (.slice (some ⟨g, 0, none⟩) (k + 1) cap))
        have Z4 := Lib.hid (Z3.far (p := ⟨w.heap.size + 1 + 1, 2, none⟩) (u := .slice (some ⟨g, 0, none⟩) (k + 1) cap) (by simp only; omega))
        have P4 := Lib.hid (P3.far (p := ⟨w.heap.size + 1 + 1, 2, none⟩) (u := .slice (some ⟨g, 0, none⟩) (k + 1) cap) (by simp only; omega))
        have B4 := Lib.hid (B3.setCell (p := ⟨w.heap.size + 1 + 1, 2, none⟩) (by simp only; omega) (.slice (some ⟨g, 0, none⟩) (k + 1) cap))
        refine hK.out _ _ (by exact ⟨P4.out.c2, farcell (by omega) c03, farcell (by omega) c13⟩) (fun hHeld => ?_)
        clear hK K
        try dsimp only
        refine wpAnyH_done (by kernel_rfl) ?_ _
        have HV4 := Lib.hid (show V.heap.size ≤ (w'.setCell ⟨w.heap.size + 1 + 1, 2, none⟩ (.slice (some ⟨g, 0, none⟩) (k + 1) cap)).heap.size from by have := hgb; simp [World.setCell]; omega)
        clear hx hg O3 Z3 P3 c03 c13 B3 O2 Z2 P2 c02 c12 B2 XK2 hnews hrow1 hap1 hbs o23 q23 o2 q2 c0 c1 d2 hHeld hrb hne hgk
        go_wp2_with fail
        go_roundw
        case rel => exact ⟨k + 1, by omega, by go_num, _, XK4, O4, Z4, P4, B4, HV4⟩
        case measure => simp [intOf]; omega
    · obtain rfl : k = nr := by omega
      have XF := XK.out
      rw [List.take_of_length_le (by omega)] at XF
      have t0 := OK.out.b5.c0
      have t1 := OK.out.b5.c1
      have t3 := OK.out.b5.c3
      have t4 := OK.out.b5.c4
      have y0 := ZK.out.b5.c0
      have y1 := ZK.out.b5.c1
      have y2 := ZK.out.b5.c2
      have y3 := ZK.out.b5.c3
      have y4 := ZK.out.b5.c4
      have g0 := ZK.out.f0
      have g1 := ZK.out.f1
      have g2 := ZK.out.f2
      have g3 := ZK.out.f3
      have g4 := ZK.out.f4
      obtain ⟨A5, c5, e5, hx5, hf5⟩ := XF.xr csG_len (by decide)
      injection e5 with e51 _ e52
      subst e51 e52
      have hvs := SZ.out
      have hvs2 := HVB.out
      have B9 := below_put (b := w.heap.size + 1) BK.out (by omega) (.slice A0 nt ct) (.int .i64 r.size) (.slice vA k vc) (.slice S ns cs) (.int .u64 (r.on : Nat))
      have hlie : LieE (More F w) vA gs := ⟨fun _ ad e => .inr (by have := hf5 ad e; omega), fun e he hne ad hA => .inl (HGL.out.2 e he hne ad hA)⟩
      have hX : LieE (fun b => b ≠ w.heap.size + 1) vA gs := ⟨fun _ ad e => by have := hf5 ad e; omega, fun e he hne ad hA => by have := HFW.out _ (HGL.out.2 e he hne ad hA); omega⟩
      have hx9 := ((((hx5.farj (j := 0) (u := .slice A0 nt ct) hX).farj (j := 1) (u := .int .i64 r.size) hX).farj (j := 2) (u := .slice vA k vc) hX).farj (j := 3) (u := .slice S ns cs) hX).farj (j := 4) (u := .int .u64 (r.on : Nat)) hX
      have HB := (H.out.below B9).mono (G := More F w) More.in
      have HF := Lib.hid (TellJ.is (F := F) (w0 := w) (d := ⟨A0, nt, ct, vA, k, vc, S, ns, cs⟩) (r := r) ⟨HB.tlen, HB.tmax, HB.fit, HB.tree, HB.lie, ⟨gs, hx9, HGE.out, hlie⟩, HB.rows, HB.on, HB.size⟩ B9)
      obtain ⟨k0, k1, k2, k3, k4⟩ := put5_told ZK.out (.slice A0 nt ct) (.int .i64 r.size) (.slice vA k vc) (.slice S ns cs) (.int .u64 (r.on : Nat))
      unfold put5 at k0 k1 k2 k3 k4
      clear B9 hlie hX hx9 HB hx5 hf5 XF q2
      go_wp2_with fail
      refine bodyPost_ret ?_ rfl HF.out
      simp [results, Tryd.results17, go_sem, k0, k1, k2, k3, k4, jv]
end Go.Proofs.YthbeldmgaioemaaDoor

