/- Contracts and plain mathematics, put together by program (wip/merge.py) out of: JApart JReal JApartW JReady. -/
import Derived.Test.YtmmgackmiemkhaaDoorM5
import Derived.Test.YtmmgackmiemkhaaDoorJRefMay
import Derived.Maps.AppendAt
/- runs.apart, by its contract: the same Runs, all in memory of its own. -/
namespace Go.Proofs.YtmmgackmiemkhaaDoor
open Go.RowKit
set_option linter.unusedVariables false

theorem flat_set_snd (es : List El) (i : Nat) (e : El) (A : Option Addr) (n c : Nat) (hi : es[i]? = some e) : (es.flatMap csG).set (i * 2 + 1) (.slice A n c) = (es.set i { e with A := A, n := n, c := c }).flatMap csG := by
  have hl := (List.getElem?_eq_some_iff.1 hi).1
  rw [← flat_set_two es i { e with A := A, n := n, c := c } hl]
  congr 1
  have h0 := flat_at csG_len es i e 0 hi (by decide)
  rw [Nat.add_zero] at h0
  have h1 : (csG e)[0]? = some (.int .i64 e.x) := rfl
  rw [h1] at h0
  obtain ⟨h2, h3⟩ := List.getElem?_eq_some_iff.1 h0
  apply List.ext_getElem (by simp)
  intro j hj1 hj2
  rw [List.getElem_set]
  split
  · rename_i e1; subst e1; exact h3
  · rfl
/-- An element's row turned. -/
theorem XO.setL {ty : TypeId} {W : World} {base g n cap : Nat} {es : List El} (h : XO csG 2 ty base W (.slice (some ⟨g, 0, Option.none⟩) n cap) n es) (i : Nat) (e : El) (hi : es[i]? = some e) (A : Option Addr) (m c : Nat) (hr : Row W A m c e.l) (ha : e.l ≠ [] → ∀ ad, A = some ad → ad.block ≠ g) :
    XO csG 2 ty base (W.setCell ⟨g, i * 2 + 1, Option.none⟩ (.slice A m c)) (.slice (some ⟨g, 0, Option.none⟩) n cap) n (es.set i { e with A := A, n := m, c := c }) := by
  obtain ⟨h1, hg⟩ := h.own.stored (i * 2 + 1) (.slice A m c)
  have each : ∀ e' ∈ es.set i { e with A := A, n := m, c := c }, Row W e'.A e'.n e'.c e'.l ∧ Apart (.slice (some ⟨g, 0, Option.none⟩) n cap) e' := by
    intro e' he'
    rcases List.mem_or_eq_of_mem_set he' with h' | rfl
    · exact ⟨h.rows e' h', h.apart e' h'⟩
    · exact ⟨hr, fun hne ad hA e2 => ha hne ad hA (by simp only [Value.ownBlock, Option.some.injEq] at e2; exact e2.symm)⟩
  refine ⟨by rw [← flat_set_snd es i e A m c hi]; exact h1, fun e' he' => ?_, fun e' he' => (each e' he').2⟩
  exact row_kept (each e' he').1 hg (fun hne ad hA => (each e' he').2 hne ad hA)
theorem XO.form {cs : El → List Value} {sz : Nat} {ty : TypeId} {W : World} {base n : Nat} {v : Value} {es : List El} (h : XO cs sz ty base W v n es) (hn : 0 < n) : ∃ g cap, v = .slice (some ⟨g, 0, Option.none⟩) n cap ∧ base ≤ g ∧ g < W.heap.size ∧ n ≤ cap ∧ cap ≤ 9223372036854775807 := by
  rcases h.own.2 with ⟨rfl, rfl⟩ | ⟨g, cap, cur, rfl, hb, _, h1, h2, _⟩
  · omega
  · exact ⟨g, cap, rfl, hb, (h.own.lt g rfl).2, h1, by unfold maxLen at h2; omega⟩
/-- Where the first loop stands: the first k rings' rows are its own. -/
structure LG (w : World) (B1 nt c1 nr c2 ns cs : Nat) (A1 A2 S : Option Addr) (r : Jp.Rn) (k : Nat) (es : List El) (wr : World) : Prop where
  box : C5 wr w.heap.size (.slice A1 nt c1) (.int .i64 r.size) (.slice A2 nr c2) (.slice S ns cs) (.int .u64 (r.on : Nat))
  put : C5 wr (w.heap.size + 1) (.slice none 0 0) (.int .i64 0) (.slice none 0 0) (.slice none 0 0) (.int .u64 0)
  tree : VRow wr B1 A1 r.tree
  own : XO csG 2 57 B1 wr (.slice A2 nr c2) nr es
  is : es.map elG = r.rings
  mine : ∀ i e, i < k → es[i]? = some e → From B1 e.A
  below : Below w.heap.size w wr
  low : w.heap.size + 2 ≤ B1
  up : B1 ≤ wr.heap.size
theorem LG.next {w wr w2 : World} {B1 nt c1 nr ns cs k g cap : Nat} {A1 S : Option Addr} {r : Jp.Rn} {es : List El} (h : LG w B1 nt c1 nr cap ns cs A1 (some ⟨g, 0, none⟩) S r k es wr) {e : El} (hk : es[k]? = some e) {A3 : Option Addr} {n3 c3 : Nat}
    (hb : Below wr.heap.size wr w2) (ho : w2.ownsRow wr.heap.size 3 1 (.slice A3 n3 c3) n3 (e.l.map (Value.int .i64))) :
    LG w B1 nt c1 nr cap ns cs A1 (some ⟨g, 0, none⟩) S r (k + 1) (es.set k { e with A := A3, n := n3, c := c3 }) (w2.setCell ⟨g, k * 2 + 1, none⟩ (.slice A3 n3 c3)) := by
  have hg := (h.own.own.lt g rfl)
  have hlo := h.low
  obtain ⟨A4, c4, e4, hr4, hf4⟩ := Row.of_own' ho
  injection e4 with e41 _ e42
  subst e41 e42
  have htree : VRow (w2.setCell ⟨g, k * 2 + 1, none⟩ (.slice A3 n3 c3)) B1 A1 r.tree := by
    intro i z hi
    obtain ⟨b, off, e, hb1, hc, hd⟩ := h.tree i z hi
    exact ⟨b, off, e, hb1, farcell (by omega) (keepcell hb hc), farcell (by omega) (keepcell hb hd)⟩
  refine ⟨(h.box.step hb).far (by simp only; omega), (h.put.step hb).far (by simp only; omega), htree, (h.own.step hb).setL k e hk A3 n3 c3 hr4 (fun _ ad hA => ?_), ?_, fun i e' hi he' => ?_, (h.below.trans (hb.mono h.below.size)).setCell (by simp only; omega) _, h.low, by have := h.up; have := hb.size; simp [World.setCell]; omega⟩
  · have := hf4 ad hA; omega
  · rw [List.map_set, ← h.is]
    have : elG { e with A := A3, n := n3, c := c3 } = elG e := rfl
    rw [this]
    apply List.ext_getElem? 
    intro j
    rw [List.getElem?_set]
    split
    · rename_i e1; subst e1; split
      · rw [List.getElem?_map, hk]; rfl
      · rw [List.getElem?_map, hk]; rename_i h2; exact absurd (by simpa using (List.getElem?_eq_some_iff.1 hk).1) h2
    · rfl
  · rw [List.getElem?_set] at he'
    split at he'
    · split at he'
      · injection he' with he'; subst he'; exact hf4.mono (by have := h.up; omega)
      · cases he'
    · exact h.mine i e' (by omega) he'
/-- Where the second loop stands: the first k rows are its own, and lie apart. -/
structure LL (w : World) (B1 B2 B3 nt c1 nr c2 ns c4 : Nat) (A1 A2 A4 : Option Addr) (r : Jp.Rn) (k : Nat) (es ls : List El) (wr : World) : Prop where
  box : C5 wr w.heap.size (.slice A1 nt c1) (.int .i64 r.size) (.slice A2 nr c2) (.slice A4 ns c4) (.int .u64 (r.on : Nat))
  put : C5 wr (w.heap.size + 1) (.slice none 0 0) (.int .i64 0) (.slice none 0 0) (.slice none 0 0) (.int .u64 0)
  tree : VRow wr B1 A1 r.tree
  own : XO csG 2 57 B1 wr (.slice A2 nr c2) nr es
  is : es.map elG = r.rings
  mine : ∀ e ∈ es, From B1 e.A
  gl : ∀ g, (Value.slice A2 nr c2).ownBlock = some g → g < B2
  gr : ∀ e ∈ es, e.l ≠ [] → ∀ ad, e.A = some ad → ad.block < B2
  rows : XO csL 1 47 B2 wr (.slice A4 ns c4) ns ls
  isl : ls.map elL = r.rows
  ll : ∀ g, (Value.slice A4 ns c4).ownBlock = some g → g < B3
  ours : ∀ i e, i < k → ls[i]? = some e → wr.ownsRow B3 3 1 (.slice e.A e.n e.c) e.n (e.l.map (Value.int .i64))
  far : ∀ i j e f, i < k → i ≠ j → ls[i]? = some e → ls[j]? = some f → Apart (.slice e.A e.n e.c) f
  below : Below w.heap.size w wr
  low : w.heap.size + 2 ≤ B1
  o12 : B1 ≤ B2
  o23 : B2 ≤ B3
  up : B3 ≤ wr.heap.size
theorem LL.next {w wr w2 : World} {B1 B2 B3 nt c1 nr c2 ns k g cap : Nat} {A1 A2 : Option Addr} {r : Jp.Rn} {es ls : List El} (h : LL w B1 B2 B3 nt c1 nr c2 ns cap A1 A2 (some ⟨g, 0, none⟩) r k es ls wr) {e : El} (hk : ls[k]? = some e) {A3 : Option Addr} {n3 c3 : Nat}
    (hb : Below wr.heap.size wr w2) (ho : w2.ownsRow wr.heap.size 3 1 (.slice A3 n3 c3) n3 (e.l.map (Value.int .i64))) :
    LL w B1 B2 B3 nt c1 nr c2 ns cap A1 A2 (some ⟨g, 0, none⟩) r (k + 1) es (ls.set k { e with A := A3, n := n3, c := c3 }) (w2.setCell ⟨g, k, none⟩ (.slice A3 n3 c3)) := by
  have hg := (h.rows.own.lt g rfl)
  have hg3 := h.ll g rfl
  have hlo := h.low
  have h12 := h.o12
  have h23 := h.o23
  have hup := h.up
  have hkn : k < ns := by rw [← h.rows.len csL_len (by decide)]; exact (List.getElem?_eq_some_iff.1 hk).1
  obtain ⟨A4, c4, e4, hr4, hf4⟩ := Row.of_own' ho
  injection e4 with e41 _ e42
  subst e41 e42
  have htree : VRow (w2.setCell ⟨g, k, none⟩ (.slice A3 n3 c3)) B1 A1 r.tree := by
    intro i z hi
    obtain ⟨b, off, e, hb1, hc, hd⟩ := h.tree i z hi
    exact ⟨b, off, e, hb1, farcell (by omega) (keepcell hb hc), farcell (by omega) (keepcell hb hd)⟩
  have hset := (h.rows.step hb).set1 k { e with A := A3, n := n3, c := c3 } hkn hr4 (fun hne ad hA e2 => by
    have := hf4 ad hA
    simp only [Value.ownBlock, Option.some.injEq] at e2
    omega)
  have hgrow : (w2.grownBy (w2.setCell ⟨g, k, none⟩ (.slice A3 n3 c3)) (some g)) := ((h.rows.step hb).own.stored k (.slice A3 n3 c3)).2
  refine ⟨(h.box.step hb).far (by simp only; omega), (h.put.step hb).far (by simp only; omega), htree, ?_, h.is, h.mine, h.gl, h.gr, hset, ?_, h.ll, fun i e' hi he' => ?_, fun i j e' f hi hij he' hf => ?_, (h.below.trans (hb.mono h.below.size)).setCell (by simp only; omega) _, h.low, h.o12, h.o23, by have := hb.size; simp [World.setCell]; omega⟩
  · refine ⟨(h.own.step hb).own.kept hgrow (.inr (fun e => ?_)), fun e' he' => row_farj ((h.own.step hb).rows e' he') (fun hne ad hA => ?_), h.own.apart⟩
    · have := h.gl g e; omega
    · have := h.gr e' he' hne ad hA; omega
  · rw [List.map_set, ← h.isl]
    have : elL { e with A := A3, n := n3, c := c3 } = elL e := rfl
    rw [this]
    apply List.ext_getElem? 
    intro j
    rw [List.getElem?_set]
    split
    · rename_i e1; subst e1; split
      · rw [List.getElem?_map, hk]; rfl
      · rw [List.getElem?_map, hk]; rename_i h2; exact absurd (by simpa using (List.getElem?_eq_some_iff.1 hk).1) h2
    · rfl
  · rw [List.getElem?_set] at he'
    split at he'
    · split at he'
      · injection he' with he'
        subst he'
        have ho' : w2.ownsRow B3 3 1 (.slice A3 n3 c3) n3 (e.l.map (Value.int .i64)) := zown_base' ho hup
        refine ho'.kept hgrow ?_
        cases hob : (Value.slice A3 n3 c3).ownBlock with
        | none => exact .inl rfl
        | some b => exact .inr (fun e => by injection e with e; have := (ho.lt b hob).1; omega)
      · cases he'
    · have h1 := own_below (h.ours i e' (by omega) he') hb
      refine h1.kept hgrow ?_
      cases hob : (Value.slice e'.A e'.n e'.c).ownBlock with
      | none => exact .inl rfl
      | some b => exact .inr (fun e => by injection e with e; have := (h1.lt b hob).1; omega)
  · rw [List.getElem?_set] at he' hf
    intro hne ad hA e2
    by_cases hik : k = i
    · subst hik
      rw [if_pos rfl, if_pos (by rw [h.rows.len csL_len (by decide)]; exact hkn)] at he'
      injection he' with he'
      subst he'
      rw [if_neg hij] at hf
      have h1 := row_block (h.rows.rows f (List.mem_of_getElem? hf)) hne hA
      have h2 := (ho.lt _ e2).1
      omega
    · rw [if_neg hik] at he'
      by_cases hjk : k = j
      · subst hjk
        rw [if_pos rfl, if_pos (by rw [h.rows.len csL_len (by decide)]; exact hkn)] at hf
        injection hf with hf
        subst hf
        have h1 := ((h.ours i e' (by omega) he').lt _ e2).2
        have h2 := hf4 ad hA
        omega
      · rw [if_neg hjk] at hf
        exact h.far i j e' f (by omega) hij he' hf hne ad hA e2
/-- What is told by apart: all in memory of its own; the rows' blocks lie behind all others, each by itself. -/
structure Told (B0 B1 B2 B3 : Nat) (d : Ad) (r : Jp.Rn) (es ls : List El) (W : World) : Prop where
  tlen : r.tree.length = d.nt
  tmax : d.nt ≤ 9223372036854775807
  fit : Fit r.tree
  on : r.on < 18446744073709551616
  size : In64 r.size
  tree : VRow W B1 d.T r.tree
  treeF : From B0 d.T
  own : XO csG 2 57 B1 W (.slice d.R d.nr d.cr) d.nr es
  is : es.map elG = r.rings
  mine : ∀ e ∈ es, From B1 e.A
  gl : ∀ g, (Value.slice d.R d.nr d.cr).ownBlock = some g → g < B2
  gr : ∀ e ∈ es, e.l ≠ [] → ∀ ad, e.A = some ad → ad.block < B2
  rows : XO csL 1 47 B2 W (.slice d.S d.ns d.cs) d.ns ls
  isl : ls.map elL = r.rows
  ll : ∀ g, (Value.slice d.S d.ns d.cs).ownBlock = some g → g < B3
  ours : ∀ (i : Nat) (e : El), ls[i]? = some e → W.ownsRow B3 3 1 (.slice e.A e.n e.c) e.n (e.l.map (Value.int .i64))
  far : ∀ (i j : Nat) (e f : El), i ≠ j → ls[i]? = some e → ls[j]? = some f → Apart (.slice e.A e.n e.c) f
  o01 : B0 ≤ B1
  o12 : B1 ≤ B2
  o23 : B2 ≤ B3
  up : B3 ≤ W.heap.size
theorem Told.step {B0 B1 B2 B3 : Nat} {d : Ad} {r : Jp.Rn} {es ls : List El} {W W' : World} (h : Told B0 B1 B2 B3 d r es ls W) (hb : Below W.heap.size W W') : Told B0 B1 B2 B3 d r es ls W' :=
  { h with
    tree := h.tree.below (hb.mono (Nat.le_trans h.o12 (Nat.le_trans h.o23 h.up)))
    own := h.own.step hb
    rows := h.rows.step hb
    ours := fun i e hi => own_below (h.ours i e hi) hb
    up := Nat.le_trans h.up hb.size }
theorem own_slice {cs : El → List Value} {sz : Nat} {ty : TypeId} {W : World} {base n c : Nat} {A : Option Addr} {es : List El} (hcs : ∀ e, (cs e).length = sz) (h0 : 0 < sz) (h : XO cs sz ty base W (.slice A n c) n es) : XR cs sz W A n c es ∧ From base A := by
  obtain ⟨A', c', e, h1, h2⟩ := h.xr hcs h0
  injection e with e1 _ e2
  subst e1 e2
  exact ⟨h1, h2⟩
theorem Told.rm {F : Nat → Prop} {B0 B1 B2 B3 : Nat} {d : Ad} {r : Jp.Rn} {es ls : List El} {W w0 : World} (h : Told B0 B1 B2 B3 d r es ls W) (h0 : w0.heap.size ≤ B0) : RM (More F w0) W d r := by
  obtain ⟨x1, f1⟩ := own_slice csG_len (by decide) h.own
  obtain ⟨x2, f2⟩ := own_slice csL_len (by decide) h.rows
  have h01 := h.o01
  have h12 := h.o12
  have h23 := h.o23
  refine ⟨h.tlen, h.tmax, h.fit, h.tree.more (by have := h.up; omega), fun _ ad hA => .inr (by have := h.treeF ad hA; omega), ⟨es, x1, h.is.symm, fun _ ad hA => .inr (by have := f1 ad hA; omega), fun e he _ ad hA => .inr (by have := h.mine e he ad hA; omega)⟩, ⟨ls, x2, h.isl.symm, fun _ ad hA => .inr (by have := f2 ad hA; omega), fun e he hne ad hA => .inr ?_⟩, h.on, h.size⟩
  obtain ⟨i, hi⟩ := List.mem_iff_getElem?.1 he
  obtain ⟨_, _, e1, _, h3⟩ := Row.of_own' (h.ours i e hi)
  injection e1 with e1
  subst e1
  have := h3 ad hA
  omega
theorem grown_one (W : World) (X j : Nat) (u : Value) : W.grownBy (W.setCell ⟨X, j, none⟩ u) (some X) := ⟨rfl, rfl, rfl, by simp [World.setCell], fun k _ hk => Below.heap_setCell _ _ _ _ (fun e => hk (by simp [e]))⟩
theorem grown_put5 (W : World) (X : Nat) (u0 u1 u2 u3 u4 : Value) : W.grownBy (put5 W X u0 u1 u2 u3 u4) (some X) :=
  ((((grown_one W X 0 u0).trans (grown_one _ X 1 u1)).trans (grown_one _ X 2 u2)).trans (grown_one _ X 3 u3)).trans (grown_one _ X 4 u4)
theorem LL.told {F : Nat → Prop} {w wr : World} {B1 B2 B3 nt ct c1 nr cr c2 ns cs c4 : Nat} {A0 A1 R A2 S A4 : Option Addr} {r : Jp.Rn} {es ls : List El} (h : LL w B1 B2 B3 nt c1 nr c2 ns c4 A1 A2 A4 r ns es ls wr) (hT : From (w.heap.size + 2) A1) (H : RM F w ⟨A0, nt, ct, R, nr, cr, S, ns, cs⟩ r) (u0 u1 u2 u3 u4 : Value) :
    Told (w.heap.size + 2) B1 B2 B3 ⟨A1, nt, c1, A2, nr, c2, A4, ns, c4⟩ r es ls (put5 wr (w.heap.size + 1) u0 u1 u2 u3 u4) := by
  have hlo := h.low
  have h12 := h.o12
  have h23 := h.o23
  have hup := h.up
  have hns : ls.length = ns := h.rows.len csL_len (by decide)
  have hg := grown_put5 wr (w.heap.size + 1) u0 u1 u2 u3 u4
  have nb : ∀ {v : Value} {B : Nat}, (∀ b, v.ownBlock = some b → w.heap.size + 2 ≤ b) → v.ownBlock = none ∨ v.ownBlock ≠ some (w.heap.size + 1) := fun {v B} hv => by
    cases hob : v.ownBlock with
    | none => exact .inl rfl
    | some b => exact .inr (fun e => by injection e with e; have := hv b hob; omega)
  have fr : ∀ {l : List Int} {A : Option Addr}, From (w.heap.size + 2) A → l ≠ [] → ∀ ad, A = some ad → some (w.heap.size + 1) ≠ some ad.block := fun {l A} hf _ ad hA e => by injection e with e; have := hf ad hA; omega
  have rf : ∀ (i : Nat) e, ls[i]? = some e → From B3 e.A := fun i e hi => by
    obtain ⟨_, _, e1, _, h3⟩ := Row.of_own' (h.ours i e (by rw [← hns]; exact (List.getElem?_eq_some_iff.1 hi).1) hi)
    injection e1 with e1
    subst e1
    exact h3
  refine ⟨H.tlen, H.tmax, H.fit, H.on, H.size, ?_, hT, ⟨h.own.own.kept hg (nb (B := 0) (fun b hb => by have := (h.own.own.lt b hb).1; omega)), fun e he => row_kept (h.own.rows e he) hg (fr ((h.mine e he).mono (by omega))), h.own.apart⟩, h.is, h.mine, h.gl, h.gr,
    ⟨h.rows.own.kept hg (nb (B := 0) (fun b hb => by have := (h.rows.own.lt b hb).1; omega)), fun e he => ?_, h.rows.apart⟩, h.isl, h.ll, fun i e hi => ?_, fun i j e f hij hi hj => h.far i j e f (by rw [← hns]; exact (List.getElem?_eq_some_iff.1 hi).1) hij hi hj, h.low, h.o12, h.o23, Nat.le_trans hup hg.size⟩
  · intro i z hi
    obtain ⟨b, off, e, hb1, hc, hd⟩ := h.tree i z hi
    have := hT _ e
    simp only at this
    exact ⟨b, off, e, hb1, hg.cell hc (fun e => by injection e with e; simp only at e; omega), hg.cell hd (fun e => by injection e with e; simp only at e; omega)⟩
  · obtain ⟨i, hi⟩ := List.mem_iff_getElem?.1 he
    exact row_kept (h.rows.rows e he) hg (fr ((rf i e hi).mono (by omega)))
  · exact (h.ours i e (by rw [← hns]; exact (List.getElem?_eq_some_iff.1 hi).1) hi).kept hg (nb (B := 0) (fun b hb => by have := ((h.ours i e (by rw [← hns]; exact (List.getElem?_eq_some_iff.1 hi).1) hi).lt b hb).1; omega))
end Go.Proofs.YtmmgackmiemkhaaDoor


/- The law's real, by its contract: the same Runs, the rings in a row of its own. -/
namespace Go.Proofs.YtmmgackmiemkhaaDoor
open Go.RowKit
set_option linter.unusedVariables false

/-- A box, a result's place, and a variable. -/
theorem boxes3v (w : World) (p0 p1 p2 p3 p4 z0 z1 z2 z3 z4 x0 x1 x2 x3 x4 : Value) (T U U' : TypeId) : ∃ V, V = ((w.alloc (.cells #[p0, p1, p2, p3, p4] T)).alloc (.cells #[z0, z1, z2, z3, z4] U)).alloc (.cells #[x0, x1, x2, x3, x4] U') ∧
    B5 V w.heap.size p0 p1 p2 p3 p4 ∧ C5 V (w.heap.size + 1) z0 z1 z2 z3 z4 ∧ C5 V (w.heap.size + 1 + 1) x0 x1 x2 x3 x4 ∧ Below w.heap.size w V ∧ V.heap.size = w.heap.size + 1 + 1 + 1 := by
  obtain ⟨V1, hV1, a1, a2, a3, _⟩ := boxes2 w p0 p1 p2 p3 p4 z0 z1 z2 z3 z4 T U
  have s1 : V1.heap.size = w.heap.size + 1 + 1 := by rw [hV1]; simp
  have a4 := C5.new V1 x0 x1 x2 x3 x4 U'
  rw [s1] at a4
  have b1 := below_new V1 (.cells #[x0, x1, x2, x3, x4] U')
  exact ⟨V1.alloc (.cells #[x0, x1, x2, x3, x4] U'), by rw [hV1], a1.step b1, a2.step b1, a4, a3.trans (b1.mono a3.size), by simp [s1]⟩
end Go.Proofs.YtmmgackmiemkhaaDoor


/- runs.apart walked. -/
namespace Go.Proofs.YtmmgackmiemkhaaDoor
open Go.RowKit
set_option linter.unusedVariables false

/-- A box that is turned, and a result's place. -/
theorem boxes2c (w : World) (p0 p1 p2 p3 p4 z0 z1 z2 z3 z4 : Value) (T U : TypeId) : ∃ V, V = (w.alloc (.cells #[p0, p1, p2, p3, p4] T)).alloc (.cells #[z0, z1, z2, z3, z4] U) ∧
    C5 V w.heap.size p0 p1 p2 p3 p4 ∧ C5 V (w.heap.size + 1) z0 z1 z2 z3 z4 ∧ Below w.heap.size w V ∧ V.heap.size = w.heap.size + 2 := by
  have a1 := C5.new w p0 p1 p2 p3 p4 T
  have a2 := C5.new (w.alloc (.cells #[p0, p1, p2, p3, p4] T)) z0 z1 z2 z3 z4 U
  have s1 : (w.alloc (.cells #[p0, p1, p2, p3, p4] T)).heap.size = w.heap.size + 1 := by simp
  rw [s1] at a2
  exact ⟨_, rfl, a1.step (below_new _ _), a2, ((Below.refl _ w).alloc (Nat.le_refl _) _).alloc (by simp) _, by simp⟩
/-- What apart leaves. -/
def TellA (r : Jp.Rn) (w : World) (e : Ending) (w' : World) : Prop :=
  ∃ d B1 B2 B3 es ls, e = .returned (jv d r) ∧ Told (w.heap.size + 2) B1 B2 B3 d r es ls w' ∧ Below w.heap.size w w'
end Go.Proofs.YtmmgackmiemkhaaDoor


/- A row of Runs that are told, made longer: an append, and what else stands. -/
namespace Go.Proofs.YtmmgackmiemkhaaDoor
open Go.RowKit
set_option linter.unusedVariables false

theorem run_append_rowat (w : World) (ty : TypeId) (base : Nat) (v : Value) (n : Nat) (xs : List Int) (hown : w.ownsRow base 3 1 v n (xs.map (Value.int .i64)))
    (A : Option Addr) (m c : Nat) (zs : List Int) (h : Row w A m c zs) (hb : n + m ≤ 1000000) (hbase : base ≤ w.heap.size) :
    ∃ v' w', (Builtin.append_ #[47, 47] ty #[v, .slice A m c]).run Tryd.prog w = .ok v' w' ∧ w'.ownsRow base 3 1 v' (n + m) ((xs ++ zs).map (Value.int .i64)) ∧ w.grownBy w' v.ownBlock ∧ (v'.ownBlock = v.ownBlock ∨ v'.ownBlock = some w.heap.size) := by
  obtain ⟨i0, hi, hz0, hz1, hz2⟩ := info_parts info_int
  have hl := h.len
  cases A with
  | none =>
    have hc := h.nil rfl
    have h2 := h.cap
    subst hc
    have hm : m = 0 := by omega
    subst hm
    have hv : zs = [] := List.length_eq_zero_iff.1 hl
    subst hv
    exact ⟨v, w, run_append_owned_none (P := Tryd.prog) w base 47 ty 3 i0 1 Tryd.underlying47 hi v n _ hown, by rw [List.append_nil, Nat.add_zero]; exact hown, World.grownBy.refl w _, .inl rfl⟩
  | some ad =>
    have hcells : ∀ j u, (zs.map (Value.int .i64))[j]? = some u → w.cell? (ad.add j) = some u := by
      cases zs with
      | nil => intro j u hj; simp at hj
      | cons y ys =>
        obtain ⟨b, off, e, _⟩ := h.row 0 y rfl
        injection e with e
        subst e
        exact h.icells
    obtain ⟨v', w', h1, h2, h3, _, h5⟩ := run_append_own_at (P := Tryd.prog) w base 47 ty 3 i0 _ 1 8 Tryd.underlying47 hi hz0 hz1 hz2 rfl (by decide) v n _ hown ad m c _ (by rw [List.length_map, hl]; omega) hcells (icells_one zs) (by unfold maxLen; omega) (by omega) hbase
    exact ⟨v', w', h1, by rw [List.map_append]; exact h2, h3, h5⟩
theorem step_append_rowat {w : World} {ops : Array Oper} {o : Oper} {a : Act} {K : Act → World → Prop} {Q : Exit → Act → World → Prop} {E : Prop} (hgd : o.guard = none) (s x : Operand)
    (ho : o.op = .call { callee := .builtin .append, args := #[s, x], argTypes := #[47, 47] })
    (base : Nat) (v : Value) (n : Nat) (xs : List Int) (hs : a.eval s = v) (hown : w.ownsRow base 3 1 v n (xs.map (Value.int .i64)))
    (A : Option Addr) (m c : Nat) (zs : List Int) (hx : a.eval x = .slice A m c) (h : Row w A m c zs) (hb : n + m ≤ 1000000) (hbase : base ≤ w.heap.size)
    (hK : ∀ v' w', w'.ownsRow base 3 1 v' (n + m) ((xs ++ zs).map (Value.int .i64)) → w.grownBy w' v.ownBlock → (v'.ownBlock = v.ownBlock ∨ v'.ownBlock = some w.heap.size) → K (a.put o.dst v') w') :
    if Region.wanted o (yielded ops a.tmps) = true then Oper.wp Tryd.prog o a w K Q else E := by
  obtain ⟨v', w', hr, h2, h3, h4⟩ := run_append_rowat w o.type base v n xs hown A m c zs h hb hbase
  have hw : Region.wanted o (yielded ops a.tmps) = true := by simp [Region.wanted, hgd]
  rw [if_pos hw]
  unfold Oper.wp
  simp [execOp, ho, resolve, invoke, builtin, hs, hx, hr, Result.andThen]
  exact hK v' w' h2 h3 h4
/-- Runs in memory whose row q is the call's own, apart from all else. -/
structure Ready (B0 q : Nat) (d : Ad) (r : Jp.Rn) (es ls : List El) (e0 : El) (W : World) : Prop where
  tlen : r.tree.length = d.nt
  tmax : d.nt ≤ 9223372036854775807
  fit : Fit r.tree
  on : r.on < 18446744073709551616
  size : In64 r.size
  tree : VRow W W.heap.size d.T r.tree
  treeF : From B0 d.T
  own : XO csG 2 57 B0 W (.slice d.R d.nr d.cr) d.nr es
  is : es.map elG = r.rings
  mine : ∀ e ∈ es, From B0 e.A
  rows : XO csL 1 47 B0 W (.slice d.S d.ns d.cs) d.ns ls
  isl : ls.map elL = r.rows
  lie : ∀ e ∈ ls, From B0 e.A
  at' : ls[q]? = some e0
  ours : W.ownsRow B0 3 1 (.slice e0.A e0.n e0.c) e0.n (e0.l.map (Value.int .i64))
  t1 : ∀ g, (Value.slice e0.A e0.n e0.c).ownBlock = some g → ∀ ad, d.T = some ad → ad.block ≠ g
  t2 : ∀ g, (Value.slice e0.A e0.n e0.c).ownBlock = some g → (Value.slice d.R d.nr d.cr).ownBlock ≠ some g
  t3 : ∀ g, (Value.slice e0.A e0.n e0.c).ownBlock = some g → ∀ e ∈ es, e.l ≠ [] → ∀ ad, e.A = some ad → ad.block ≠ g
  t4 : ∀ g, (Value.slice e0.A e0.n e0.c).ownBlock = some g → (Value.slice d.S d.ns d.cs).ownBlock ≠ some g
  t5 : ∀ (j : Nat) (f : El), j ≠ q → ls[j]? = some f → Apart (.slice e0.A e0.n e0.c) f
  r1 : ∀ g, (Value.slice d.R d.nr d.cr).ownBlock = some g → ∀ ad, d.T = some ad → ad.block ≠ g
  r2 : ∀ g, (Value.slice d.R d.nr d.cr).ownBlock = some g → (Value.slice d.S d.ns d.cs).ownBlock ≠ some g
  r3 : ∀ g, (Value.slice d.R d.nr d.cr).ownBlock = some g → ∀ e ∈ ls, e.l ≠ [] → ∀ ad, e.A = some ad → ad.block ≠ g
  s1 : ∀ g, (Value.slice d.S d.ns d.cs).ownBlock = some g → ∀ ad, d.T = some ad → ad.block ≠ g
  s2 : ∀ g, (Value.slice d.S d.ns d.cs).ownBlock = some g → ∀ e ∈ es, e.l ≠ [] → ∀ ad, e.A = some ad → ad.block ≠ g
  up : B0 ≤ W.heap.size
theorem xo_base {cs : El → List Value} {sz : Nat} {ty : TypeId} {b1 b2 n : Nat} {w : World} {v : Value} {es : List El} (h : XO cs sz ty b1 w v n es) (hb : b2 ≤ b1) : XO cs sz ty b2 w v n es := ⟨zown_base' h.own hb, h.rows, h.apart⟩
/-- A tree's block lies below B1. -/
theorem tree_lt {W : World} {B : Nat} {A : Option Addr} {vs : List (Int × Int)} (h : VRow W B A vs) (hne : vs ≠ []) : ∀ ad, A = some ad → ad.block < B := by
  intro ad hA
  obtain ⟨x0, hx0⟩ : ∃ x, vs[0]? = some x := ⟨_, List.getElem?_eq_getElem (List.length_pos_iff.2 hne)⟩
  obtain ⟨b, off, e5, hb, _⟩ := h 0 x0 hx0
  rw [hA] at e5
  injection e5 with e5
  subst e5
  exact hb
theorem Told.ready {B0 B1 B2 B3 : Nat} {d : Ad} {r : Jp.Rn} {es ls : List El} {W : World} (h : Told B0 B1 B2 B3 d r es ls W) (hne : r.tree ≠ []) {q : Nat} {e0 : El} (hq : ls[q]? = some e0) : Ready B0 q d r es ls e0 W := by
  have h01 := h.o01
  have h12 := h.o12
  have h23 := h.o23
  have hup := h.up
  have hT := tree_lt h.tree hne
  have rf : ∀ (i : Nat) e, ls[i]? = some e → From B3 e.A := fun i e hi => by
    obtain ⟨_, _, e1, _, h3⟩ := Row.of_own' (h.ours i e hi)
    injection e1 with e1
    subst e1
    exact h3
  have rf' : ∀ e ∈ ls, From B3 e.A := fun e he => by obtain ⟨i, hi⟩ := List.mem_iff_getElem?.1 he; exact rf i e hi
  have hg0 : ∀ g, (Value.slice e0.A e0.n e0.c).ownBlock = some g → B3 ≤ g := fun g hg => ((h.ours q e0 hq).lt g hg).1
  exact {
    tlen := h.tlen, tmax := h.tmax, fit := h.fit, on := h.on, size := h.size
    tree := h.tree.more (by omega)
    treeF := h.treeF
    own := xo_base h.own h01
    is := h.is
    mine := fun e he => (h.mine e he).mono h01
    rows := xo_base h.rows (by omega)
    isl := h.isl
    lie := fun e he => (rf' e he).mono (by omega)
    at' := hq
    ours := zown_base' (h.ours q e0 hq) (by omega)
    t1 := fun g hg ad hA => by have := hg0 g hg; have := hT ad hA; omega
    t2 := fun g hg e => by have := hg0 g hg; have := h.gl g e; omega
    t3 := fun g hg e he hne ad hA => by have := hg0 g hg; have := h.gr e he hne ad hA; omega
    t4 := fun g hg e => by have := hg0 g hg; have := h.ll g e; omega
    t5 := fun j f hj hf => h.far q j e0 f (fun e => hj e.symm) hq hf
    r1 := fun g hg ad hA => by have := (h.own.own.lt g hg).1; have := hT ad hA; omega
    r2 := fun g hg e => by have := h.gl g hg; have := (h.rows.own.lt g e).1; omega
    r3 := fun g hg e he hne ad hA => by have := h.gl g hg; have := rf' e he ad hA; omega
    s1 := fun g hg ad hA => by have := (h.rows.own.lt g hg).1; have := hT ad hA; omega
    s2 := fun g hg e he hne ad hA => by have := (h.rows.own.lt g hg).1; have := h.gr e he hne ad hA; omega
    up := by omega }
theorem Ready.step {B0 q : Nat} {d : Ad} {r : Jp.Rn} {es ls : List El} {e0 : El} {W W' : World} (h : Ready B0 q d r es ls e0 W) (hb : Below W.heap.size W W') : Ready B0 q d r es ls e0 W' :=
  { h with
    tree := (h.tree.below hb).more hb.size
    own := h.own.step hb
    rows := h.rows.step hb
    ours := own_below h.ours hb
    up := Nat.le_trans h.up hb.size }
theorem vrow_set {W : World} {X j : Nat} {A : Option Addr} {vs : List (Int × Int)} {u : Value} (h : VRow W W.heap.size A vs) (ha : ∀ ad, A = some ad → ad.block ≠ X) : VRow (W.setCell ⟨X, j, none⟩ u) (W.setCell ⟨X, j, none⟩ u).heap.size A vs := vrow_farj h (fun _ => ha)
theorem xo_kept {cs : El → List Value} {sz : Nat} {ty : TypeId} {base n g : Nat} {W W' : World} {v : Value} {es : List El} (h : XO cs sz ty base W v n es) (hg : W.grownBy W' (some g)) (hv : v.ownBlock ≠ some g) (hr : ∀ e ∈ es, e.l ≠ [] → ∀ ad, e.A = some ad → ad.block ≠ g) : XO cs sz ty base W' v n es :=
  ⟨h.own.kept hg (.inr hv), fun e he => row_kept (h.rows e he) hg (fun hne ad hA e2 => by injection e2 with e2; exact hr e he hne ad hA e2.symm), h.apart⟩
theorem map_set_elG (es : List El) (p : Nat) (e : El) : (es.set p e).map elG = (es.map elG).set p (elG e) := List.map_set
theorem map_set_elL (es : List El) (p : Nat) (e : El) : (es.set p e).map elL = (es.map elL).set p (elL e) := List.map_set
theorem vrow_grown {W W' : World} {g : Nat} {A : Option Addr} {vs : List (Int × Int)} (h : VRow W W.heap.size A vs) (hg : W.grownBy W' (some g)) (ha : ∀ ad, A = some ad → ad.block ≠ g) : VRow W' W'.heap.size A vs := by
  intro i z hi
  obtain ⟨b, off, e, hb, hc, hd⟩ := h i z hi
  have hne := ha _ e
  simp only at hne
  exact ⟨b, off, e, Nat.lt_of_lt_of_le hb hg.size, hg.cell hc (fun e => by injection e with e; exact hne e), hg.cell hd (fun e => by injection e with e; exact hne e)⟩
/-- A ring turned. -/
theorem Ready.ring {B0 B q p g nt ct nr cr ns cs : Nat} {T S : Option Addr} {r : Jp.Rn} {es ls : List El} {e0 : El} {W : World} (h : Ready B0 q ⟨T, nt, ct, some ⟨g, 0, none⟩, nr, cr, S, ns, cs⟩ r es ls e0 W) (hp : p < nr) {x : Int × List Int} {A : Option Addr} {n c : Nat}
    (hr : Row W A n c x.2) (hf : From B A) (hB0 : B0 ≤ B) (hg : g < B) (he : ∀ k, (Value.slice e0.A e0.n e0.c).ownBlock = some k → k < B) (hs : ∀ k, (Value.slice S ns cs).ownBlock = some k → k < B) :
    Ready B0 q ⟨T, nt, ct, some ⟨g, 0, none⟩, nr, cr, S, ns, cs⟩ (Jp.ringed r p x) (es.set p ⟨x.1, x.2, A, n, c⟩) ls e0 ((W.setCell ⟨g, p * 2, none⟩ (.int .i64 x.1)).setCell ⟨g, p * 2 + 1, none⟩ (.slice A n c)) := by
  have hgr := (grown_one W g (p * 2) (.int .i64 x.1)).trans (grown_one _ g (p * 2 + 1) (.slice A n c))
  have hgB := (h.own.own.lt g rfl).1
  exact {
    tlen := h.tlen, tmax := h.tmax, fit := h.fit, on := h.on, size := h.size
    tree := vrow_grown h.tree hgr (h.r1 g rfl)
    treeF := h.treeF
    own := h.own.set2 p ⟨x.1, x.2, A, n, c⟩ hp hr (fun _ ad hA e2 => by have := hf ad hA; simp only [Value.ownBlock, Option.some.injEq] at e2; omega)
    is := by rw [map_set_elG, h.is]; rfl
    mine := fun e he' => by
      rcases List.mem_or_eq_of_mem_set he' with h' | rfl
      · exact h.mine e h'
      · exact hf.mono hB0
    rows := xo_kept h.rows hgr (h.r2 g rfl) (h.r3 g rfl)
    isl := h.isl
    lie := h.lie
    at' := h.at'
    ours := h.ours.kept hgr (by
      cases hob : (Value.slice e0.A e0.n e0.c).ownBlock with
      | none => exact .inl rfl
      | some k => exact .inr (fun e => by injection e with e; exact h.t2 k hob (by rw [e]; rfl)))
    t1 := h.t1
    t2 := h.t2
    t3 := fun k hk e he' hne ad hA => by
      rcases List.mem_or_eq_of_mem_set he' with h' | rfl
      · exact h.t3 k hk e h' hne ad hA
      · have := hf ad hA; have := he k hk; omega
    t4 := h.t4
    t5 := h.t5
    r1 := h.r1
    r2 := h.r2
    r3 := h.r3
    s1 := h.s1
    s2 := fun k hk e he' hne ad hA => by
      rcases List.mem_or_eq_of_mem_set he' with h' | rfl
      · exact h.s2 k hk e h' hne ad hA
      · have := hf ad hA; have := hs k hk; omega
    up := Nat.le_trans h.up hgr.size }
/-- The row made longer, and told in its place. -/
theorem Ready.push {F : Nat → Prop} {B0 q g nt ct nr cr ns cs : Nat} {T R : Option Addr} {r : Jp.Rn} {es ls : List El} {e0 : El} {w0 W W' : World} (h : Ready B0 q ⟨T, nt, ct, R, nr, cr, some ⟨g, 0, none⟩, ns, cs⟩ r es ls e0 W) (h0 : w0.heap.size ≤ B0) {l : List Int} {A : Option Addr} {n c : Nat}
    (ho : W'.ownsRow B0 3 1 (.slice A n c) n ((e0.l ++ l).map (Value.int .i64))) (hgr : W.grownBy W' (Value.slice e0.A e0.n e0.c).ownBlock) (hat : (Value.slice A n c).ownBlock = (Value.slice e0.A e0.n e0.c).ownBlock ∨ (Value.slice A n c).ownBlock = some W.heap.size) :
    RM (More F w0) (W'.setCell ⟨g, q, none⟩ (.slice A n c)) ⟨T, nt, ct, R, nr, cr, some ⟨g, 0, none⟩, ns, cs⟩ (Jp.rowed r q (e0.l ++ l)) := by
  have hq := h.at'
  have hln : ls.length = ns := h.rows.len csL_len (by decide)
  have hqn : q < ns := by rw [← hln]; exact (List.getElem?_eq_some_iff.1 hq).1
  have hgl := h.rows.own.lt g rfl
  obtain ⟨A5, c5, e5, hrow, hfr⟩ := Row.of_own' ho
  injection e5 with e51 _ e52
  subst e51 e52
  -- behind the append
  have ne : ∀ {v : Value}, (∀ k, (Value.slice e0.A e0.n e0.c).ownBlock = some k → v.ownBlock ≠ some k) → v.ownBlock = none ∨ v.ownBlock ≠ (Value.slice e0.A e0.n e0.c).ownBlock := fun {v} hv => by
    cases hob : (Value.slice e0.A e0.n e0.c).ownBlock with
    | none =>
      cases hv' : v.ownBlock with
      | none => exact .inl rfl
      | some b => exact .inr (by simp)
    | some k => exact .inr (hv k hob)
  have rn : ∀ {e : El}, (∀ k, (Value.slice e0.A e0.n e0.c).ownBlock = some k → e.l ≠ [] → ∀ ad, e.A = some ad → ad.block ≠ k) → e.l ≠ [] → ∀ ad, e.A = some ad → (Value.slice e0.A e0.n e0.c).ownBlock ≠ some ad.block := fun {e} hv hne ad hA hk => hv _ hk hne ad hA rfl
  have hG : XO csG 2 57 B0 W' (.slice R nr cr) nr es := ⟨h.own.own.kept hgr (ne h.t2), fun e he => row_kept (h.own.rows e he) hgr (rn (fun k hk => h.t3 k hk e he)), h.own.apart⟩
  have hLo : W'.ownsRow B0 47 1 (.slice (some ⟨g, 0, none⟩) ns cs) ns (ls.flatMap csL) := h.rows.own.kept hgr (ne h.t4)
  have hTr : VRow W' W'.heap.size T r.tree := by
    intro i z hi
    obtain ⟨b, off, e, hb, hc, hd⟩ := h.tree i z hi
    have hne : (Value.slice e0.A e0.n e0.c).ownBlock ≠ some b := fun hk => h.t1 b hk _ e rfl
    exact ⟨b, off, e, Nat.lt_of_lt_of_le hb hgr.size, hgr.cell hc (fun e => hne e.symm), hgr.cell hd (fun e => hne e.symm)⟩
  -- the store
  have hAg : ∀ ad, A = some ad → ad.block ≠ g := fun ad hA => by
    have hfl : (Value.slice A n c).ownBlock = some ad.block := by rw [hA]; rfl
    rcases hat with e | e
    · rw [hfl] at e; exact fun e2 => h.t4 _ e.symm (by rw [e2]; rfl)
    · rw [hfl] at e; injection e with e; omega
  have hgo := grown_one W' g q (.slice A n c)
  have hG2 := xo_kept hG hgo (fun e => h.r2 _ e rfl) (h.s2 g rfl)
  have hT2 := vrow_grown hTr hgo (h.s1 g rfl)
  have hset : (ls.flatMap csL).set q (.slice A n c) = (ls.set q ⟨e0.x, e0.l ++ l, A, n, c⟩).flatMap csL := flat_set_one ls q ⟨e0.x, e0.l ++ l, A, n, c⟩ (List.getElem?_eq_some_iff.1 hq).1
  have hL2 : XO csL 1 47 B0 (W'.setCell ⟨g, q, none⟩ (.slice A n c)) (.slice (some ⟨g, 0, none⟩) ns cs) ns (ls.set q ⟨e0.x, e0.l ++ l, A, n, c⟩) := by
    refine ⟨by rw [← hset]; exact (hLo.stored q (.slice A n c)).1, fun e he => ?_, fun e he hne ad hA e2 => ?_⟩
    · obtain ⟨j, hj⟩ := List.mem_iff_getElem?.1 he
      rw [List.getElem?_set] at hj
      by_cases hjq : q = j
      · subst hjq
        rw [if_pos rfl, if_pos (List.getElem?_eq_some_iff.1 hq).1] at hj
        injection hj with hj
        subst hj
        exact row_kept hrow hgo (fun _ ad hA e2 => by injection e2 with e2; exact hAg ad hA e2.symm)
      · rw [if_neg hjq] at hj
        have h1 := row_kept (h.rows.rows e (List.mem_of_getElem? hj)) hgr (h.t5 j e (fun e => hjq e.symm) hj)
        exact row_kept h1 hgo (fun hne ad hA => h.rows.apart e (List.mem_of_getElem? hj) hne ad hA)
    · simp only [Value.ownBlock, Option.some.injEq] at e2
      rcases List.mem_or_eq_of_mem_set he with h' | rfl
      · exact h.rows.apart e h' hne ad hA (by rw [e2]; rfl)
      · exact hAg ad hA e2.symm
  obtain ⟨x1, f1⟩ := own_slice csG_len (by decide) hG2
  obtain ⟨x2, f2⟩ := own_slice csL_len (by decide) hL2
  refine ⟨h.tlen, h.tmax, h.fit, hT2, fun _ ad hA => .inr (by have := h.treeF ad hA; omega), ⟨es, x1, h.is.symm, fun _ ad hA => .inr (by have := f1 ad hA; omega), fun e he _ ad hA => .inr (by have := h.mine e he ad hA; omega)⟩, ⟨_, x2, by rw [map_set_elL, h.isl]; rfl, fun _ ad hA => .inr (by have := f2 ad hA; omega), fun e he _ ad hA => .inr ?_⟩, h.on, h.size⟩
  rcases List.mem_or_eq_of_mem_set he with h' | rfl
  · have := h.lie e h' ad hA; omega
  · have := hfr ad hA; omega
theorem may_tree {r : Jp.Rn} (h : Jp.May r) : r.tree ≠ [] := fun e => by
  have := h.tree
  rw [e] at this
  exact absurd this (by decide)
theorem Told.ns {B0 B1 B2 B3 : Nat} {d : Ad} {r : Jp.Rn} {es ls : List El} {W : World} (h : Told B0 B1 B2 B3 d r es ls W) : r.rows.length = d.ns ∧ ls.length = d.ns := by
  have h1 := h.rows.len csL_len (by decide)
  exact ⟨by rw [← h.isl, List.length_map, h1], h1⟩
theorem Told.nr {B0 B1 B2 B3 : Nat} {d : Ad} {r : Jp.Rn} {es ls : List El} {W : World} (h : Told B0 B1 B2 B3 d r es ls W) : r.rings.length = d.nr ∧ es.length = d.nr := by
  have h1 := h.own.len csG_len (by decide)
  exact ⟨by rw [← h.is, List.length_map, h1], h1⟩
theorem nobody {w : World} {b : Nat} (h : More (fun _ => False) w b) : w.heap.size ≤ b := h.resolve_left id
end Go.Proofs.YtmmgackmiemkhaaDoor

