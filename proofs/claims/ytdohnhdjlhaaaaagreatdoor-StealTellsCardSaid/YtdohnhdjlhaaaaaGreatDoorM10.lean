/- Contracts and plain mathematics, put together by program (wip/merge.py) out of: JApart YRev. -/
import Derived.Test.YtdohnhdjlhaaaaaGreatDoorM5
import Derived.Test.YtdohnhdjlhaaaaaGreatDoorJRefMay
import Derived.Test.YtdohnhdjlhaaaaaGreatDoorM6
import Derived.BigRegion
/- runs.apart, by its contract: the same Runs, all in memory of its own. -/
namespace Go.Proofs.YtdohnhdjlhaaaaaGreatDoor
open Go.RowKit
set_option linter.unusedVariables false

theorem flat_set_snd (es : List El) (i : Nat) (e : El) (A : Option Addr) (n c : Nat) (hi : es[i]? = some e) : (es.flatMap csG).set (i * 2 + 1) (.slice A n c) = (es.set i { e with A := A, n := n, c := c }).flatMap csG := by
  have hl := (List.getElem?_eq_some_iff.1 hi).1
  rw [← flat_set_two es i { e with A := A, n := n, c := c } hl]
  congr 1
  have h0 := flat_at csG_len es i e 0 hi (by decide)
  rw [Nat.add_zero] at h0
  have h1 : (csG e)[0]? = some (.int .i64 e.x) := rfl
  rw [h1] at h0
  obtain ⟨h2, h3⟩ := List.getElem?_eq_some_iff.1 h0
  apply List.ext_getElem (by simp)
  intro j hj1 hj2
  rw [List.getElem_set]
  split
  · rename_i e1; subst e1; exact h3
  · rfl
/-- An element's row turned. -/
theorem XO.setL {ty : TypeId} {W : World} {base g n cap : Nat} {es : List El} (h : XO csG 2 ty base W (.slice (some ⟨g, 0, Option.none⟩) n cap) n es) (i : Nat) (e : El) (hi : es[i]? = some e) (A : Option Addr) (m c : Nat) (hr : Row W A m c e.l) (ha : e.l ≠ [] → ∀ ad, A = some ad → ad.block ≠ g) :
    XO csG 2 ty base (W.setCell ⟨g, i * 2 + 1, Option.none⟩ (.slice A m c)) (.slice (some ⟨g, 0, Option.none⟩) n cap) n (es.set i { e with A := A, n := m, c := c }) := by
  obtain ⟨h1, hg⟩ := h.own.stored (i * 2 + 1) (.slice A m c)
  have each : ∀ e' ∈ es.set i { e with A := A, n := m, c := c }, Row W e'.A e'.n e'.c e'.l ∧ Apart (.slice (some ⟨g, 0, Option.none⟩) n cap) e' := by
    intro e' he'
    rcases List.mem_or_eq_of_mem_set he' with h' | rfl
    · exact ⟨h.rows e' h', h.apart e' h'⟩
    · exact ⟨hr, fun hne ad hA e2 => ha hne ad hA (by simp only [Value.ownBlock, Option.some.injEq] at e2; exact e2.symm)⟩
  refine ⟨by rw [← flat_set_snd es i e A m c hi]; exact h1, fun e' he' => ?_, fun e' he' => (each e' he').2⟩
  exact row_kept (each e' he').1 hg (fun hne ad hA => (each e' he').2 hne ad hA)
theorem XO.form {cs : El → List Value} {sz : Nat} {ty : TypeId} {W : World} {base n : Nat} {v : Value} {es : List El} (h : XO cs sz ty base W v n es) (hn : 0 < n) : ∃ g cap, v = .slice (some ⟨g, 0, Option.none⟩) n cap ∧ base ≤ g ∧ g < W.heap.size ∧ n ≤ cap ∧ cap ≤ 9223372036854775807 := by
  rcases h.own.2 with ⟨rfl, rfl⟩ | ⟨g, cap, cur, rfl, hb, _, h1, h2, _⟩
  · omega
  · exact ⟨g, cap, rfl, hb, (h.own.lt g rfl).2, h1, by unfold maxLen at h2; omega⟩
/-- Where the first loop stands: the first k rings' rows are its own. -/
structure LG (w : World) (B1 nt c1 nr c2 ns cs : Nat) (A1 A2 S : Option Addr) (r : Jp.Rn) (k : Nat) (es : List El) (wr : World) : Prop where
  box : C5 wr w.heap.size (.slice A1 nt c1) (.int .i64 r.size) (.slice A2 nr c2) (.slice S ns cs) (.int .u64 (r.on : Nat))
  put : C5 wr (w.heap.size + 1) (.slice none 0 0) (.int .i64 0) (.slice none 0 0) (.slice none 0 0) (.int .u64 0)
  tree : VRow wr B1 A1 r.tree
  own : XO csG 2 54 B1 wr (.slice A2 nr c2) nr es
  is : es.map elG = r.rings
  mine : ∀ i e, i < k → es[i]? = some e → From B1 e.A
  below : Below w.heap.size w wr
  low : w.heap.size + 2 ≤ B1
  up : B1 ≤ wr.heap.size
theorem LG.next {w wr w2 : World} {B1 nt c1 nr ns cs k g cap : Nat} {A1 S : Option Addr} {r : Jp.Rn} {es : List El} (h : LG w B1 nt c1 nr cap ns cs A1 (some ⟨g, 0, none⟩) S r k es wr) {e : El} (hk : es[k]? = some e) {A3 : Option Addr} {n3 c3 : Nat}
    (hb : Below wr.heap.size wr w2) (ho : w2.ownsRow wr.heap.size 3 1 (.slice A3 n3 c3) n3 (e.l.map (Value.int .i64))) :
    LG w B1 nt c1 nr cap ns cs A1 (some ⟨g, 0, none⟩) S r (k + 1) (es.set k { e with A := A3, n := n3, c := c3 }) (w2.setCell ⟨g, k * 2 + 1, none⟩ (.slice A3 n3 c3)) := by
  have hg := (h.own.own.lt g rfl)
  have hlo := h.low
  obtain ⟨A4, c4, e4, hr4, hf4⟩ := Row.of_own' ho
  injection e4 with e41 _ e42
  subst e41 e42
  have htree : VRow (w2.setCell ⟨g, k * 2 + 1, none⟩ (.slice A3 n3 c3)) B1 A1 r.tree := by
    intro i z hi
    obtain ⟨b, off, e, hb1, hc, hd⟩ := h.tree i z hi
    exact ⟨b, off, e, hb1, farcell (by omega) (keepcell hb hc), farcell (by omega) (keepcell hb hd)⟩
  refine ⟨(h.box.step hb).far (by simp only; omega), (h.put.step hb).far (by simp only; omega), htree, (h.own.step hb).setL k e hk A3 n3 c3 hr4 (fun _ ad hA => ?_), ?_, fun i e' hi he' => ?_, (h.below.trans (hb.mono h.below.size)).setCell (by simp only; omega) _, h.low, by have := h.up; have := hb.size; simp [World.setCell]; omega⟩
  · have := hf4 ad hA; omega
  · rw [List.map_set, ← h.is]
    have : elG { e with A := A3, n := n3, c := c3 } = elG e := rfl
    rw [this]
    apply List.ext_getElem? 
    intro j
    rw [List.getElem?_set]
    split
    · rename_i e1; subst e1; split
      · rw [List.getElem?_map, hk]; rfl
      · rw [List.getElem?_map, hk]; rename_i h2; exact absurd (by simpa using (List.getElem?_eq_some_iff.1 hk).1) h2
    · rfl
  · rw [List.getElem?_set] at he'
    split at he'
    · split at he'
      · injection he' with he'; subst he'; exact hf4.mono (by have := h.up; omega)
      · cases he'
    · exact h.mine i e' (by omega) he'
/-- Where the second loop stands: the first k rows are its own, and lie apart. -/
structure LL (w : World) (B1 B2 B3 nt c1 nr c2 ns c4 : Nat) (A1 A2 A4 : Option Addr) (r : Jp.Rn) (k : Nat) (es ls : List El) (wr : World) : Prop where
  box : C5 wr w.heap.size (.slice A1 nt c1) (.int .i64 r.size) (.slice A2 nr c2) (.slice A4 ns c4) (.int .u64 (r.on : Nat))
  put : C5 wr (w.heap.size + 1) (.slice none 0 0) (.int .i64 0) (.slice none 0 0) (.slice none 0 0) (.int .u64 0)
  tree : VRow wr B1 A1 r.tree
  own : XO csG 2 54 B1 wr (.slice A2 nr c2) nr es
  is : es.map elG = r.rings
  mine : ∀ e ∈ es, From B1 e.A
  gl : ∀ g, (Value.slice A2 nr c2).ownBlock = some g → g < B2
  gr : ∀ e ∈ es, e.l ≠ [] → ∀ ad, e.A = some ad → ad.block < B2
  rows : XO csL 1 42 B2 wr (.slice A4 ns c4) ns ls
  isl : ls.map elL = r.rows
  ll : ∀ g, (Value.slice A4 ns c4).ownBlock = some g → g < B3
  ours : ∀ i e, i < k → ls[i]? = some e → wr.ownsRow B3 3 1 (.slice e.A e.n e.c) e.n (e.l.map (Value.int .i64))
  far : ∀ i j e f, i < k → i ≠ j → ls[i]? = some e → ls[j]? = some f → Apart (.slice e.A e.n e.c) f
  below : Below w.heap.size w wr
  low : w.heap.size + 2 ≤ B1
  o12 : B1 ≤ B2
  o23 : B2 ≤ B3
  up : B3 ≤ wr.heap.size
theorem LL.next {w wr w2 : World} {B1 B2 B3 nt c1 nr c2 ns k g cap : Nat} {A1 A2 : Option Addr} {r : Jp.Rn} {es ls : List El} (h : LL w B1 B2 B3 nt c1 nr c2 ns cap A1 A2 (some ⟨g, 0, none⟩) r k es ls wr) {e : El} (hk : ls[k]? = some e) {A3 : Option Addr} {n3 c3 : Nat}
    (hb : Below wr.heap.size wr w2) (ho : w2.ownsRow wr.heap.size 3 1 (.slice A3 n3 c3) n3 (e.l.map (Value.int .i64))) :
    LL w B1 B2 B3 nt c1 nr c2 ns cap A1 A2 (some ⟨g, 0, none⟩) r (k + 1) es (ls.set k { e with A := A3, n := n3, c := c3 }) (w2.setCell ⟨g, k, none⟩ (.slice A3 n3 c3)) := by
  have hg := (h.rows.own.lt g rfl)
  have hg3 := h.ll g rfl
  have hlo := h.low
  have h12 := h.o12
  have h23 := h.o23
  have hup := h.up
  have hkn : k < ns := by rw [← h.rows.len csL_len (by decide)]; exact (List.getElem?_eq_some_iff.1 hk).1
  obtain ⟨A4, c4, e4, hr4, hf4⟩ := Row.of_own' ho
  injection e4 with e41 _ e42
  subst e41 e42
  have htree : VRow (w2.setCell ⟨g, k, none⟩ (.slice A3 n3 c3)) B1 A1 r.tree := by
    intro i z hi
    obtain ⟨b, off, e, hb1, hc, hd⟩ := h.tree i z hi
    exact ⟨b, off, e, hb1, farcell (by omega) (keepcell hb hc), farcell (by omega) (keepcell hb hd)⟩
  have hset := (h.rows.step hb).set1 k { e with A := A3, n := n3, c := c3 } hkn hr4 (fun hne ad hA e2 => by
    have := hf4 ad hA
    simp only [Value.ownBlock, Option.some.injEq] at e2
    omega)
  have hgrow : (w2.grownBy (w2.setCell ⟨g, k, none⟩ (.slice A3 n3 c3)) (some g)) := ((h.rows.step hb).own.stored k (.slice A3 n3 c3)).2
  refine ⟨(h.box.step hb).far (by simp only; omega), (h.put.step hb).far (by simp only; omega), htree, ?_, h.is, h.mine, h.gl, h.gr, hset, ?_, h.ll, fun i e' hi he' => ?_, fun i j e' f hi hij he' hf => ?_, (h.below.trans (hb.mono h.below.size)).setCell (by simp only; omega) _, h.low, h.o12, h.o23, by have := hb.size; simp [World.setCell]; omega⟩
  · refine ⟨(h.own.step hb).own.kept hgrow (.inr (fun e => ?_)), fun e' he' => row_farj ((h.own.step hb).rows e' he') (fun hne ad hA => ?_), h.own.apart⟩
    · have := h.gl g e; omega
    · have := h.gr e' he' hne ad hA; omega
  · rw [List.map_set, ← h.isl]
    have : elL { e with A := A3, n := n3, c := c3 } = elL e := rfl
    rw [this]
    apply List.ext_getElem? 
    intro j
    rw [List.getElem?_set]
    split
    · rename_i e1; subst e1; split
      · rw [List.getElem?_map, hk]; rfl
      · rw [List.getElem?_map, hk]; rename_i h2; exact absurd (by simpa using (List.getElem?_eq_some_iff.1 hk).1) h2
    · rfl
  · rw [List.getElem?_set] at he'
    split at he'
    · split at he'
      · injection he' with he'
        subst he'
        have ho' : w2.ownsRow B3 3 1 (.slice A3 n3 c3) n3 (e.l.map (Value.int .i64)) := zown_base' ho hup
        refine ho'.kept hgrow ?_
        cases hob : (Value.slice A3 n3 c3).ownBlock with
        | none => exact .inl rfl
        | some b => exact .inr (fun e => by injection e with e; have := (ho.lt b hob).1; omega)
      · cases he'
    · have h1 := own_below (h.ours i e' (by omega) he') hb
      refine h1.kept hgrow ?_
      cases hob : (Value.slice e'.A e'.n e'.c).ownBlock with
      | none => exact .inl rfl
      | some b => exact .inr (fun e => by injection e with e; have := (h1.lt b hob).1; omega)
  · rw [List.getElem?_set] at he' hf
    intro hne ad hA e2
    by_cases hik : k = i
    · subst hik
      rw [if_pos rfl, if_pos (by rw [h.rows.len csL_len (by decide)]; exact hkn)] at he'
      injection he' with he'
      subst he'
      rw [if_neg hij] at hf
      have h1 := row_block (h.rows.rows f (List.mem_of_getElem? hf)) hne hA
      have h2 := (ho.lt _ e2).1
      omega
    · rw [if_neg hik] at he'
      by_cases hjk : k = j
      · subst hjk
        rw [if_pos rfl, if_pos (by rw [h.rows.len csL_len (by decide)]; exact hkn)] at hf
        injection hf with hf
        subst hf
        have h1 := ((h.ours i e' (by omega) he').lt _ e2).2
        have h2 := hf4 ad hA
        omega
      · rw [if_neg hjk] at hf
        exact h.far i j e' f (by omega) hij he' hf hne ad hA e2
/-- What is told by apart: all in memory of its own; the rows' blocks lie behind all others, each by itself. -/
structure Told (B0 B1 B2 B3 : Nat) (d : Ad) (r : Jp.Rn) (es ls : List El) (W : World) : Prop where
  tlen : r.tree.length = d.nt
  tmax : d.nt ≤ 9223372036854775807
  fit : Fit r.tree
  on : r.on < 18446744073709551616
  size : In64 r.size
  tree : VRow W B1 d.T r.tree
  treeF : From B0 d.T
  own : XO csG 2 54 B1 W (.slice d.R d.nr d.cr) d.nr es
  is : es.map elG = r.rings
  mine : ∀ e ∈ es, From B1 e.A
  gl : ∀ g, (Value.slice d.R d.nr d.cr).ownBlock = some g → g < B2
  gr : ∀ e ∈ es, e.l ≠ [] → ∀ ad, e.A = some ad → ad.block < B2
  rows : XO csL 1 42 B2 W (.slice d.S d.ns d.cs) d.ns ls
  isl : ls.map elL = r.rows
  ll : ∀ g, (Value.slice d.S d.ns d.cs).ownBlock = some g → g < B3
  ours : ∀ (i : Nat) (e : El), ls[i]? = some e → W.ownsRow B3 3 1 (.slice e.A e.n e.c) e.n (e.l.map (Value.int .i64))
  far : ∀ (i j : Nat) (e f : El), i ≠ j → ls[i]? = some e → ls[j]? = some f → Apart (.slice e.A e.n e.c) f
  o01 : B0 ≤ B1
  o12 : B1 ≤ B2
  o23 : B2 ≤ B3
  up : B3 ≤ W.heap.size
theorem Told.step {B0 B1 B2 B3 : Nat} {d : Ad} {r : Jp.Rn} {es ls : List El} {W W' : World} (h : Told B0 B1 B2 B3 d r es ls W) (hb : Below W.heap.size W W') : Told B0 B1 B2 B3 d r es ls W' :=
  { h with
    tree := h.tree.below (hb.mono (Nat.le_trans h.o12 (Nat.le_trans h.o23 h.up)))
    own := h.own.step hb
    rows := h.rows.step hb
    ours := fun i e hi => own_below (h.ours i e hi) hb
    up := Nat.le_trans h.up hb.size }
theorem own_slice {cs : El → List Value} {sz : Nat} {ty : TypeId} {W : World} {base n c : Nat} {A : Option Addr} {es : List El} (hcs : ∀ e, (cs e).length = sz) (h0 : 0 < sz) (h : XO cs sz ty base W (.slice A n c) n es) : XR cs sz W A n c es ∧ From base A := by
  obtain ⟨A', c', e, h1, h2⟩ := h.xr hcs h0
  injection e with e1 _ e2
  subst e1 e2
  exact ⟨h1, h2⟩
theorem Told.rm {F : Nat → Prop} {B0 B1 B2 B3 : Nat} {d : Ad} {r : Jp.Rn} {es ls : List El} {W w0 : World} (h : Told B0 B1 B2 B3 d r es ls W) (h0 : w0.heap.size ≤ B0) : RM (More F w0) W d r := by
  obtain ⟨x1, f1⟩ := own_slice csG_len (by decide) h.own
  obtain ⟨x2, f2⟩ := own_slice csL_len (by decide) h.rows
  have h01 := h.o01
  have h12 := h.o12
  have h23 := h.o23
  refine ⟨h.tlen, h.tmax, h.fit, h.tree.more (by have := h.up; omega), fun _ ad hA => .inr (by have := h.treeF ad hA; omega), ⟨es, x1, h.is.symm, fun _ ad hA => .inr (by have := f1 ad hA; omega), fun e he _ ad hA => .inr (by have := h.mine e he ad hA; omega)⟩, ⟨ls, x2, h.isl.symm, fun _ ad hA => .inr (by have := f2 ad hA; omega), fun e he hne ad hA => .inr ?_⟩, h.on, h.size⟩
  obtain ⟨i, hi⟩ := List.mem_iff_getElem?.1 he
  obtain ⟨_, _, e1, _, h3⟩ := Row.of_own' (h.ours i e hi)
  injection e1 with e1
  subst e1
  have := h3 ad hA
  omega
theorem grown_one (W : World) (X j : Nat) (u : Value) : W.grownBy (W.setCell ⟨X, j, none⟩ u) (some X) := ⟨rfl, rfl, rfl, by simp [World.setCell], fun k _ hk => Below.heap_setCell _ _ _ _ (fun e => hk (by simp [e]))⟩
theorem grown_put5 (W : World) (X : Nat) (u0 u1 u2 u3 u4 : Value) : W.grownBy (put5 W X u0 u1 u2 u3 u4) (some X) :=
  ((((grown_one W X 0 u0).trans (grown_one _ X 1 u1)).trans (grown_one _ X 2 u2)).trans (grown_one _ X 3 u3)).trans (grown_one _ X 4 u4)
theorem LL.told {F : Nat → Prop} {w wr : World} {B1 B2 B3 nt ct c1 nr cr c2 ns cs c4 : Nat} {A0 A1 R A2 S A4 : Option Addr} {r : Jp.Rn} {es ls : List El} (h : LL w B1 B2 B3 nt c1 nr c2 ns c4 A1 A2 A4 r ns es ls wr) (hT : From (w.heap.size + 2) A1) (H : RM F w ⟨A0, nt, ct, R, nr, cr, S, ns, cs⟩ r) (u0 u1 u2 u3 u4 : Value) :
    Told (w.heap.size + 2) B1 B2 B3 ⟨A1, nt, c1, A2, nr, c2, A4, ns, c4⟩ r es ls (put5 wr (w.heap.size + 1) u0 u1 u2 u3 u4) := by
  have hlo := h.low
  have h12 := h.o12
  have h23 := h.o23
  have hup := h.up
  have hns : ls.length = ns := h.rows.len csL_len (by decide)
  have hg := grown_put5 wr (w.heap.size + 1) u0 u1 u2 u3 u4
  have nb : ∀ {v : Value} {B : Nat}, (∀ b, v.ownBlock = some b → w.heap.size + 2 ≤ b) → v.ownBlock = none ∨ v.ownBlock ≠ some (w.heap.size + 1) := fun {v B} hv => by
    cases hob : v.ownBlock with
    | none => exact .inl rfl
    | some b => exact .inr (fun e => by injection e with e; have := hv b hob; omega)
  have fr : ∀ {l : List Int} {A : Option Addr}, From (w.heap.size + 2) A → l ≠ [] → ∀ ad, A = some ad → some (w.heap.size + 1) ≠ some ad.block := fun {l A} hf _ ad hA e => by injection e with e; have := hf ad hA; omega
  have rf : ∀ (i : Nat) e, ls[i]? = some e → From B3 e.A := fun i e hi => by
    obtain ⟨_, _, e1, _, h3⟩ := Row.of_own' (h.ours i e (by rw [← hns]; exact (List.getElem?_eq_some_iff.1 hi).1) hi)
    injection e1 with e1
    subst e1
    exact h3
  refine ⟨H.tlen, H.tmax, H.fit, H.on, H.size, ?_, hT, ⟨h.own.own.kept hg (nb (B := 0) (fun b hb => by have := (h.own.own.lt b hb).1; omega)), fun e he => row_kept (h.own.rows e he) hg (fr ((h.mine e he).mono (by omega))), h.own.apart⟩, h.is, h.mine, h.gl, h.gr,
    ⟨h.rows.own.kept hg (nb (B := 0) (fun b hb => by have := (h.rows.own.lt b hb).1; omega)), fun e he => ?_, h.rows.apart⟩, h.isl, h.ll, fun i e hi => ?_, fun i j e f hij hi hj => h.far i j e f (by rw [← hns]; exact (List.getElem?_eq_some_iff.1 hi).1) hij hi hj, h.low, h.o12, h.o23, Nat.le_trans hup hg.size⟩
  · intro i z hi
    obtain ⟨b, off, e, hb1, hc, hd⟩ := h.tree i z hi
    have := hT _ e
    simp only at this
    exact ⟨b, off, e, hb1, hg.cell hc (fun e => by injection e with e; simp only at e; omega), hg.cell hd (fun e => by injection e with e; simp only at e; omega)⟩
  · obtain ⟨i, hi⟩ := List.mem_iff_getElem?.1 he
    exact row_kept (h.rows.rows e he) hg (fr ((rf i e hi).mono (by omega)))
  · exact (h.ours i e (by rw [← hns]; exact (List.getElem?_eq_some_iff.1 hi).1) hi).kept hg (nb (B := 0) (fun b hb => by have := ((h.ours i e (by rw [← hns]; exact (List.getElem?_eq_some_iff.1 hi).1) hi).lt b hb).1; omega))
end Go.Proofs.YtdohnhdjlhaaaaaGreatDoor


/- slices.Reverse of two closures. -/
namespace Go.Proofs.YtdohnhdjlhaaaaaGreatDoor
open Go.RowKit
set_option linter.unusedVariables false

set_option maxRecDepth 100000 in
set_option maxHeartbeats 1000000 in
theorem rev_any (L : Nat) (fa fb : FuncId) (ca cb : Array Value) (w : World) (h0 : w.cell? ⟨L, 0, none⟩ = some (.func (.func fa) #[] ca)) (h1 : w.cell? ⟨L, 1, none⟩ = some (.func (.func fb) #[] cb)) (f0 : w.frozen? ⟨L, 0, none⟩ = false) (f1 : w.frozen? ⟨L, 1, none⟩ = false) :
    Calls Tryz.prog 98 #[.slice (some ⟨L, 0, none⟩) 2 2] w fun e w' => e = .returned (.tuple #[]) ∧ w' = ((w.drew.setCell ⟨L, 0, none⟩ (.func (.func fb) #[] cb)).setCell ⟨L, 1, none⟩ (.func (.func fa) #[] ca)) := by
  have hst := fun (a : Addr) (fn : Fn) (cb : Array Value) (W : World) => run_store Tryz.prog W a (.func fn #[] cb) .plain rfl
  go_enter Tryz.func98, Tryz.ntmps98
  go_wp2_with fail
  go_loopw [2, 3] (fun i j wr => (i = .int .i64 0 ∧ j = .int .i64 1 ∧ wr = w) ∨ (i = .int .i64 1 ∧ j = .int .i64 0 ∧ wr = ((w.drew.setCell ⟨L, 0, none⟩ (.func (.func fb) #[] cb)).setCell ⟨L, 1, none⟩ (.func (.func fa) #[] ca)))) (fun i _ _ => 1 - (intOf i).toNat)
  case atStart => exact .inl ⟨rfl, rfl, rfl⟩
  case round =>
    rcases hrel with ⟨rfl, rfl, rfl⟩ | ⟨rfl, rfl, rfl⟩
    · go_wp2_with fail
      go_region
      go_wp2_with fail
      go_roundw
      case rel => exact .inr ⟨by go_num, by go_num, rfl⟩
      case measure => simp [intOf]
    · go_wp2_with fail
      go_end0
      exact ⟨rfl, rfl⟩
end Go.Proofs.YtdohnhdjlhaaaaaGreatDoor

