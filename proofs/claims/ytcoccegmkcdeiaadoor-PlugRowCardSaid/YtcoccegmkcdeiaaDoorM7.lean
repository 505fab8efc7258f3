/- Contracts and plain mathematics, put together by program (wip/merge.py) out of: JBox JBound JClone JPlain2 JPut5 JNone JRefAll. -/
import Derived.Test.YtcoccegmkcdeiaaDoorM6
import Derived.Test.YtcoccegmkcdeiaaDoorM1
/- Variables of five cells, that are turned; empty slices that are built. -/
namespace Go.Proofs.YtcoccegmkcdeiaaDoor
open Go.RowKit
set_option linter.unusedVariables false

/-- Five cells of a block that may be written. -/
structure C5 (W : World) (b : Nat) (v0 v1 v2 v3 v4 : Value) : Prop where
  b5 : B5 W b v0 v1 v2 v3 v4
  f0 : W.frozen? ⟨b, 0, none⟩ = false
  f1 : W.frozen? ⟨b, 1, none⟩ = false
  f2 : W.frozen? ⟨b, 2, none⟩ = false
  f3 : W.frozen? ⟨b, 3, none⟩ = false
  f4 : W.frozen? ⟨b, 4, none⟩ = false
variable {W W' : World} {b : Nat} {v0 v1 v2 v3 v4 : Value}
theorem B5.lt (h : B5 W b v0 v1 v2 v3 v4) : b < W.heap.size := World.block_lt_of_cell? W ⟨b, 0, none⟩ h.c0
theorem C5.lt (h : C5 W b v0 v1 v2 v3 v4) : b < W.heap.size := h.b5.lt
theorem C5.step (h : C5 W b v0 v1 v2 v3 v4) (hb : Below W.heap.size W W') : C5 W' b v0 v1 v2 v3 v4 :=
  ⟨h.b5.step hb, keepfree hb h.b5.c0 h.f0, keepfree hb h.b5.c1 h.f1, keepfree hb h.b5.c2 h.f2, keepfree hb h.b5.c3 h.f3, keepfree hb h.b5.c4 h.f4⟩
theorem C5.drew (h : C5 W b v0 v1 v2 v3 v4) : C5 W.drew b v0 v1 v2 v3 v4 := ⟨h.b5.drew, h.f0, h.f1, h.f2, h.f3, h.f4⟩
theorem C5.new (w : World) (v0 v1 v2 v3 v4 : Value) (T : TypeId) : C5 (w.alloc (.cells #[v0, v1, v2, v3, v4] T)) w.heap.size v0 v1 v2 v3 v4 :=
  ⟨B5.new w _ _ _ _ _ T, by rw [World.frozen?_alloc_at _ _ _ _ rfl], by rw [World.frozen?_alloc_at _ _ _ _ rfl], by rw [World.frozen?_alloc_at _ _ _ _ rfl], by rw [World.frozen?_alloc_at _ _ _ _ rfl], by rw [World.frozen?_alloc_at _ _ _ _ rfl]⟩
theorem B5.grown {row : Option Nat} (h : B5 W b v0 v1 v2 v3 v4) (hg : W.grownBy W' row) (hr : some b ≠ row) : B5 W' b v0 v1 v2 v3 v4 := by
  have hb : W'.heap[b]? = W.heap[b]? := hg.block b h.lt hr
  exact ⟨by rw [World.cell?_of_block (w := W) hb]; exact h.c0, by rw [World.cell?_of_block (w := W) hb]; exact h.c1, by rw [World.cell?_of_block (w := W) hb]; exact h.c2, by rw [World.cell?_of_block (w := W) hb]; exact h.c3, by rw [World.cell?_of_block (w := W) hb]; exact h.c4⟩
theorem C5.grown {row : Option Nat} (h : C5 W b v0 v1 v2 v3 v4) (hg : W.grownBy W' row) (hr : some b ≠ row) : C5 W' b v0 v1 v2 v3 v4 := by
  have hb : W'.heap[b]? = W.heap[b]? := hg.block b h.lt hr
  exact ⟨h.b5.grown hg hr, by rw [World.frozen?_of_block (w := W) hb]; exact h.f0, by rw [World.frozen?_of_block (w := W) hb]; exact h.f1, by rw [World.frozen?_of_block (w := W) hb]; exact h.f2, by rw [World.frozen?_of_block (w := W) hb]; exact h.f3, by rw [World.frozen?_of_block (w := W) hb]; exact h.f4⟩
theorem B5.far {p : Addr} {u : Value} (h : B5 W b v0 v1 v2 v3 v4) (hne : p.block ≠ b) : B5 (W.setCell p u) b v0 v1 v2 v3 v4 :=
  ⟨(World.cell?_setCell_other _ _ _ _ (fun e => hne (by rw [e]))).trans h.c0, (World.cell?_setCell_other _ _ _ _ (fun e => hne (by rw [e]))).trans h.c1, (World.cell?_setCell_other _ _ _ _ (fun e => hne (by rw [e]))).trans h.c2, (World.cell?_setCell_other _ _ _ _ (fun e => hne (by rw [e]))).trans h.c3, (World.cell?_setCell_other _ _ _ _ (fun e => hne (by rw [e]))).trans h.c4⟩
theorem C5.far {p : Addr} {u : Value} (h : C5 W b v0 v1 v2 v3 v4) (hne : p.block ≠ b) : C5 (W.setCell p u) b v0 v1 v2 v3 v4 :=
  ⟨h.b5.far hne, by rw [World.frozen?_setCell]; exact h.f0, by rw [World.frozen?_setCell]; exact h.f1, by rw [World.frozen?_setCell]; exact h.f2, by rw [World.frozen?_setCell]; exact h.f3, by rw [World.frozen?_setCell]; exact h.f4⟩
theorem B5.set0 (h : B5 W b v0 v1 v2 v3 v4) (u : Value) : B5 (W.setCell ⟨b, 0, none⟩ u) b u v1 v2 v3 v4 := by
  refine ⟨?_, ?_, ?_, ?_, ?_⟩ <;> first
    | exact World.cell?_setCell_same' _ _ _ (by rw [h.c0]; rfl)
    | (rw [World.cell?_setCell_other _ _ _ _ (fun e => by injection e with _ e; omega)]; first | exact h.c0 | exact h.c1 | exact h.c2 | exact h.c3 | exact h.c4)
theorem C5.set0 (h : C5 W b v0 v1 v2 v3 v4) (u : Value) : C5 (W.setCell ⟨b, 0, none⟩ u) b u v1 v2 v3 v4 :=
  ⟨h.b5.set0 u, by rw [World.frozen?_setCell]; exact h.f0, by rw [World.frozen?_setCell]; exact h.f1, by rw [World.frozen?_setCell]; exact h.f2, by rw [World.frozen?_setCell]; exact h.f3, by rw [World.frozen?_setCell]; exact h.f4⟩
theorem B5.set1 (h : B5 W b v0 v1 v2 v3 v4) (u : Value) : B5 (W.setCell ⟨b, 1, none⟩ u) b v0 u v2 v3 v4 := by
  refine ⟨?_, ?_, ?_, ?_, ?_⟩ <;> first
    | exact World.cell?_setCell_same' _ _ _ (by rw [h.c1]; rfl)
    | (rw [World.cell?_setCell_other _ _ _ _ (fun e => by injection e with _ e; omega)]; first | exact h.c0 | exact h.c1 | exact h.c2 | exact h.c3 | exact h.c4)
theorem C5.set1 (h : C5 W b v0 v1 v2 v3 v4) (u : Value) : C5 (W.setCell ⟨b, 1, none⟩ u) b v0 u v2 v3 v4 :=
  ⟨h.b5.set1 u, by rw [World.frozen?_setCell]; exact h.f0, by rw [World.frozen?_setCell]; exact h.f1, by rw [World.frozen?_setCell]; exact h.f2, by rw [World.frozen?_setCell]; exact h.f3, by rw [World.frozen?_setCell]; exact h.f4⟩
theorem B5.set2 (h : B5 W b v0 v1 v2 v3 v4) (u : Value) : B5 (W.setCell ⟨b, 2, none⟩ u) b v0 v1 u v3 v4 := by
  refine ⟨?_, ?_, ?_, ?_, ?_⟩ <;> first
    | exact World.cell?_setCell_same' _ _ _ (by rw [h.c2]; rfl)
    | (rw [World.cell?_setCell_other _ _ _ _ (fun e => by injection e with _ e; omega)]; first | exact h.c0 | exact h.c1 | exact h.c2 | exact h.c3 | exact h.c4)
theorem C5.set2 (h : C5 W b v0 v1 v2 v3 v4) (u : Value) : C5 (W.setCell ⟨b, 2, none⟩ u) b v0 v1 u v3 v4 :=
  ⟨h.b5.set2 u, by rw [World.frozen?_setCell]; exact h.f0, by rw [World.frozen?_setCell]; exact h.f1, by rw [World.frozen?_setCell]; exact h.f2, by rw [World.frozen?_setCell]; exact h.f3, by rw [World.frozen?_setCell]; exact h.f4⟩
theorem B5.set3 (h : B5 W b v0 v1 v2 v3 v4) (u : Value) : B5 (W.setCell ⟨b, 3, none⟩ u) b v0 v1 v2 u v4 := by
  refine ⟨?_, ?_, ?_, ?_, ?_⟩ <;> first
    | exact World.cell?_setCell_same' _ _ _ (by rw [h.c3]; rfl)
    | (rw [World.cell?_setCell_other _ _ _ _ (fun e => by injection e with _ e; omega)]; first | exact h.c0 | exact h.c1 | exact h.c2 | exact h.c3 | exact h.c4)
theorem C5.set3 (h : C5 W b v0 v1 v2 v3 v4) (u : Value) : C5 (W.setCell ⟨b, 3, none⟩ u) b v0 v1 v2 u v4 :=
  ⟨h.b5.set3 u, by rw [World.frozen?_setCell]; exact h.f0, by rw [World.frozen?_setCell]; exact h.f1, by rw [World.frozen?_setCell]; exact h.f2, by rw [World.frozen?_setCell]; exact h.f3, by rw [World.frozen?_setCell]; exact h.f4⟩
theorem B5.set4 (h : B5 W b v0 v1 v2 v3 v4) (u : Value) : B5 (W.setCell ⟨b, 4, none⟩ u) b v0 v1 v2 v3 u := by
  refine ⟨?_, ?_, ?_, ?_, ?_⟩ <;> first
    | exact World.cell?_setCell_same' _ _ _ (by rw [h.c4]; rfl)
    | (rw [World.cell?_setCell_other _ _ _ _ (fun e => by injection e with _ e; omega)]; first | exact h.c0 | exact h.c1 | exact h.c2 | exact h.c3 | exact h.c4)
theorem C5.set4 (h : C5 W b v0 v1 v2 v3 v4) (u : Value) : C5 (W.setCell ⟨b, 4, none⟩ u) b v0 v1 v2 v3 u :=
  ⟨h.b5.set4 u, by rw [World.frozen?_setCell]; exact h.f0, by rw [World.frozen?_setCell]; exact h.f1, by rw [World.frozen?_setCell]; exact h.f2, by rw [World.frozen?_setCell]; exact h.f3, by rw [World.frozen?_setCell]; exact h.f4⟩
/-- All five turned. -/
def put5 (W : World) (b : Nat) (u0 u1 u2 u3 u4 : Value) : World :=
  ((((W.setCell ⟨b, 0, none⟩ u0).setCell ⟨b, 1, none⟩ u1).setCell ⟨b, 2, none⟩ u2).setCell ⟨b, 3, none⟩ u3).setCell ⟨b, 4, none⟩ u4
theorem C5.put (h : C5 W b v0 v1 v2 v3 v4) (u0 u1 u2 u3 u4 : Value) : C5 (put5 W b u0 u1 u2 u3 u4) b u0 u1 u2 u3 u4 := ((((h.set0 u0).set1 u1).set2 u2).set3 u3).set4 u4
theorem below_put {B : Nat} {w : World} (h : Below B w W) (hb : B ≤ b) (u0 u1 u2 u3 u4 : Value) : Below B w (put5 W b u0 u1 u2 u3 u4) :=
  ((((h.setCell (p := ⟨b, 0, none⟩) hb u0).setCell (p := ⟨b, 1, none⟩) hb u1).setCell (p := ⟨b, 2, none⟩) hb u2).setCell (p := ⟨b, 3, none⟩) hb u3).setCell (p := ⟨b, 4, none⟩) hb u4
theorem own_no (w : World) (base : Nat) (e : TypeId) (sz : Nat) (h : base ≤ w.heap.size) : (w.alloc (.cells #[] e)).ownsRow base e sz (.slice (some ⟨w.heap.size, 0, none⟩) 0 0) 0 [] :=
  ⟨by simp, .inr ⟨w.heap.size, 0, #[], rfl, h, heap_alloc_new w _, Nat.le_refl _, by unfold maxLen; omega, by simp, by simp⟩⟩
theorem XO.empty {cs : El → List Value} {sz : Nat} {ty : TypeId} (w : World) (base : Nat) (h : base ≤ w.heap.size) : XO cs sz ty base (w.alloc (.cells #[] ty)) (.slice (some ⟨w.heap.size, 0, Option.none⟩) 0 0) 0 [] :=
  ⟨own_no w base ty sz h, fun e he => by simp at he, fun e he => by simp at he⟩
theorem row_block {w : World} {A : Option Addr} {n c : Nat} {zs : List Int} (h : Row w A n c zs) (hne : zs ≠ []) {ad : Addr} (hA : A = some ad) : ad.block < w.heap.size := by
  have h4 : 0 < n := by rw [← h.len]; exact List.length_pos_iff.2 hne
  obtain ⟨b, off, e3, hb, _⟩ := h.cells h4
  rw [hA] at e3
  injection e3 with e3
  subst e3
  exact hb
theorem XO.far {cs : El → List Value} {sz : Nat} {ty : TypeId} {base n g cap X j : Nat} {es : List El} {u : Value} (h : XO cs sz ty base W (.slice (some ⟨g, 0, Option.none⟩) n cap) n es) (hX : g ≠ X) (hr : ∀ e ∈ es, e.l ≠ [] → ∀ ad, e.A = some ad → ad.block ≠ X) :
    XO cs sz ty base (W.setCell ⟨X, j, Option.none⟩ u) (.slice (some ⟨g, 0, Option.none⟩) n cap) n es := by
  refine ⟨h.own.kept (row := some X) ⟨rfl, rfl, rfl, by simp [World.setCell], fun k _ hk => Below.heap_setCell _ _ _ _ (fun e => hk (by simp [e]))⟩ (.inr (by simp [Value.ownBlock]; exact hX)), fun e he => row_farj (h.rows e he) (hr e he), h.apart⟩
theorem TellJ.is {F : Nat → Prop} {w0 w' : World} {d : Ad} {r : Jp.Rn} (h : RM (More F w0) w' d r) (hb : Below w0.heap.size w0 w') : TellJ F w0 r (.returned (jv d r)) w' := ⟨d, rfl, h, hb⟩
theorem farcell {w : World} {b i X j : Nat} {u v : Value} (hne : b ≠ X) (h : w.cell? ⟨b, i, none⟩ = some v) : (w.setCell ⟨X, j, none⟩ u).cell? ⟨b, i, none⟩ = some v :=
  (World.cell?_setCell_other _ _ _ _ (fun e => by injection e with e; exact hne e.symm)).trans h
end Go.Proofs.YtcoccegmkcdeiaaDoor


/- What is told lies in blocks that are there. -/
namespace Go.Proofs.YtcoccegmkcdeiaaDoor
open Go.RowKit
set_option linter.unusedVariables false

/-- What is told lies in blocks that are there. -/
theorem LieE.bound {F : Nat → Prop} {cs : El → List Value} {sz : Nat} {w : World} {A : Option Addr} {n c : Nat} {es : List El} (h : LieE F A es) (hx : XR cs sz w A n c es) : LieE (fun b => F b ∧ b < w.heap.size) A es := by
  refine ⟨fun hne ad hA => ⟨h.1 hne ad hA, ?_⟩, fun e he hne ad hA => ⟨h.2 e he hne ad hA, row_block (hx.rows e he) hne hA⟩⟩
  obtain ⟨e0, he0⟩ : ∃ e, es[0]? = some e := ⟨_, List.getElem?_eq_getElem (List.length_pos_iff.2 hne)⟩
  obtain ⟨b, off, e1, hb, _⟩ := hx.cell 0 e0 he0
  rw [hA] at e1
  injection e1 with e1
  subst e1
  exact hb
theorem RM.bound {F : Nat → Prop} {w : World} {d : Ad} {r : Jp.Rn} (h : RM F w d r) : RM (fun b => F b ∧ b < w.heap.size) w d r := by
  obtain ⟨gs, h1, h2, h5⟩ := h.rings
  obtain ⟨ls, h3, h4, h6⟩ := h.rows
  refine ⟨h.tlen, h.tmax, h.fit, h.tree, fun hne ad hA => ⟨h.lie hne ad hA, ?_⟩, ⟨gs, h1, h2, h5.bound h1⟩, ⟨ls, h3, h4, h6.bound h3⟩, h.on, h.size⟩
  obtain ⟨x0, hx0⟩ : ∃ x, r.tree[0]? = some x := ⟨_, List.getElem?_eq_getElem (List.length_pos_iff.2 hne)⟩
  obtain ⟨b, off, e5, hb, _⟩ := h.tree 0 x0 hx0
  rw [hA] at e5
  injection e5 with e5
  subst e5
  exact hb
end Go.Proofs.YtcoccegmkcdeiaaDoor


/- slices.Clone at the tree, the rings, the rows, a row, by contracts: the same in memory of its own. -/
namespace Go.Proofs.YtcoccegmkcdeiaaDoor
open Go.RowKit
set_option linter.unusedVariables false

theorem XO.of_own {cs : El → List Value} {sz : Nat} {ty : TypeId} {base n : Nat} {w w' : World} {v : Value} {es : List El} (h : w'.ownsRow base ty sz v n (es.flatMap cs)) (hb : Below w.heap.size w w') (hB : w.heap.size ≤ base) (hr : ∀ e ∈ es, Row w e.A e.n e.c e.l) : XO cs sz ty base w' v n es :=
  ⟨h, fun e he => (hr e he).below hb, fun e he hne ad hA e2 => by have h1 := row_block (hr e he) hne hA; have h2 := (h.lt _ e2).1; omega⟩
theorem XR.news {cs : El → List Value} {sz : Nat} {w : World} {ad : Addr} {n c : Nat} {es : List El} (hcs : ∀ e, (cs e).length = sz) (h0 : 0 < sz) (h : XR cs sz w (some ad) n c es) : ∀ j u, (es.flatMap cs)[j]? = some u → w.cell? (ad.add j) = some u := by
  cases es with
  | nil => intro j u hj; simp at hj
  | cons y ys =>
    obtain ⟨b, off, e, _⟩ := h.cell 0 y rfl
    injection e with e
    subst e
    exact h.flat hcs h0
/-- What a clone leaves. -/
def MadeX (cs : El → List Value) (sz : Nat) (ty : TypeId) (n : Nat) (es : List El) (w0 : World) (e : Ending) (w' : World) : Prop :=
  ∃ v, e = .returned v ∧ XO cs sz ty w0.heap.size w' v n es ∧ Below w0.heap.size w0 w'
set_option maxHeartbeats 1000000 in
theorem cloneG_any (A : Option Addr) (n c : Nat) (es : List El) (w : World) (h : XR csG 2 w A n c es) (hl : n ≤ 1000) :
    Calls Tryd.prog 55 #[.slice A n c] w (MadeX csG 2 45 n es w) := by
  cases A with
  | none =>
    have h1 := h.cap
    have h2 := h.len
    have h3 := h.nil rfl
    obtain rfl : n = 0 := by omega
    obtain rfl := List.length_eq_zero_iff.1 h2
    clear h h1 h2 h3
    have hE : ∀ W, (binOp .eql 30 (.slice none 0 c) (.slice none 0 0)).run Tryd.prog W = .ok (.bool true) W := fun W => by kernel_rfl
    go_enter Tryd.func55, Tryd.ntmps55
    go_wp2_with fail
    go_ret
    exact ⟨_, rfl, XO.none _ _, Below.refl _ _⟩
  | some ad =>
    obtain ⟨i0, hi, hz0, hz1, hz2⟩ := info_parts info_ring
    have hb1 := below_new w (.cells #[] 45)
    have hO := own_no w w.heap.size 45 2 (Nat.le_refl _)
    have HC := Lib.hid ((h.below hb1).news csG_len (by decide))
    have HL := Lib.hid (show (es.flatMap csG).length = n * 2 by rw [flat_len csG_len, h.len])
    have HR := Lib.hid h.rows
    clear h hb1
    have hE : ∀ W, (binOp .eql 30 (.slice (some ad) n c) (.slice none 0 0)).run Tryd.prog W = .ok (.bool false) W := fun W => by kernel_rfl
    go_enter Tryd.func55, Tryd.ntmps55
    go_wp2_with (refine wpList_append_own _ (by rfl) _ _ _ (by rfl) w.heap.size 45 i0 _ 2 32 Tryd.underlying30 hi hz0 hz1 hz2 rfl (by decide) (.slice (some ⟨w.heap.size, 0, none⟩) 0 0) 0 [] (by rfl) hO ad n c (es.flatMap csG) (by rfl) HL.out HC.out (csG_one es) (by unfold maxLen; omega) (by omega) (by simp) ?_; intro v' w' ho hg _)
    go_ret
    have hb := ((below_new w (.cells #[] 45)).grown hg (by simp) (fun k e => by simp [Value.ownBlock] at e; omega))
    rw [List.nil_append, Nat.zero_add] at ho
    exact ⟨_, rfl, XO.of_own ho hb (Nat.le_refl _) HR.out, hb⟩
set_option maxHeartbeats 1000000 in
theorem cloneL_any (A : Option Addr) (n c : Nat) (es : List El) (w : World) (h : XR csL 1 w A n c es) (hl : n ≤ 1000) :
    Calls Tryd.prog 57 #[.slice A n c] w (MadeX csL 1 42 n es w) := by
  cases A with
  | none =>
    have h1 := h.cap
    have h2 := h.len
    have h3 := h.nil rfl
    obtain rfl : n = 0 := by omega
    obtain rfl := List.length_eq_zero_iff.1 h2
    clear h h1 h2 h3
    have hE : ∀ W, (binOp .eql 24 (.slice none 0 c) (.slice none 0 0)).run Tryd.prog W = .ok (.bool true) W := fun W => by kernel_rfl
    go_enter Tryd.func57, Tryd.ntmps57
    go_wp2_with fail
    go_ret
    exact ⟨_, rfl, XO.none _ _, Below.refl _ _⟩
  | some ad =>
    obtain ⟨i0, hi, hz0, hz1, hz2⟩ := info_parts info_rows
    have hb1 := below_new w (.cells #[] 42)
    have hO := own_no w w.heap.size 42 1 (Nat.le_refl _)
    have HC := Lib.hid ((h.below hb1).news csL_len (by decide))
    have HL := Lib.hid (show (es.flatMap csL).length = n * 1 by rw [flat_len csL_len, h.len])
    have HR := Lib.hid h.rows
    clear h hb1
    have hE : ∀ W, (binOp .eql 24 (.slice (some ad) n c) (.slice none 0 0)).run Tryd.prog W = .ok (.bool false) W := fun W => by kernel_rfl
    go_enter Tryd.func57, Tryd.ntmps57
    go_wp2_with (refine wpList_append_own _ (by rfl) _ _ _ (by rfl) w.heap.size 42 i0 _ 1 24 Tryd.underlying24 hi hz0 hz1 hz2 rfl (by decide) (.slice (some ⟨w.heap.size, 0, none⟩) 0 0) 0 [] (by rfl) hO ad n c (es.flatMap csL) (by rfl) HL.out HC.out (csL_one es) (by unfold maxLen; omega) (by omega) (by simp) ?_; intro v' w' ho hg _)
    go_ret
    have hb := ((below_new w (.cells #[] 42)).grown hg (by simp) (fun k e => by simp [Value.ownBlock] at e; omega))
    rw [List.nil_append, Nat.zero_add] at ho
    exact ⟨_, rfl, XO.of_own ho hb (Nat.le_refl _) HR.out, hb⟩
/-- .. at the tree. -/
def MadeV (n : Nat) (vs : List (Int × Int)) (w0 : World) (e : Ending) (w' : World) : Prop :=
  ∃ A c, e = .returned (.slice A n c) ∧ VRow w' w'.heap.size A vs ∧ From w0.heap.size A ∧ Below w0.heap.size w0 w'
set_option maxHeartbeats 1000000 in
theorem cloneV_any (A : Option Addr) (n c : Nat) (vs : List (Int × Int)) (w : World) (hn : vs.length = n) (h : VRow w w.heap.size A vs) (hl : n ≤ 1000) :
    Calls Tryd.prog 50 #[.slice A n c] w (MadeV n vs w) := by
  cases A with
  | none =>
    have hv : vs = [] := by
      cases vs with
      | nil => rfl
      | cons y ys => obtain ⟨b, off, e, _⟩ := h 0 y rfl; cases e
    subst hv
    obtain rfl : n = 0 := by rw [← hn]; rfl
    clear h
    have hE : ∀ W, (binOp .eql 22 (.slice none 0 c) (.slice none 0 0)).run Tryd.prog W = .ok (.bool true) W := fun W => by kernel_rfl
    go_enter Tryd.func50, Tryd.ntmps50
    go_wp2_with fail
    go_ret
    exact ⟨none, 0, rfl, fun i z hi => by simp at hi, From.none _, Below.refl _ _⟩
  | some ad =>
    obtain ⟨i0, hi, hz0, hz1, hz2⟩ := info_parts info_vx
    have hb1 := below_new w (.cells #[] 78)
    have hO := own_no w w.heap.size 78 2 (Nat.le_refl _)
    have HC := Lib.hid (show ∀ j u, (vcells vs)[j]? = some u → (w.alloc (.cells #[] 78)).cell? (ad.add j) = some u by
      cases vs with
      | nil => intro j u hj; simp [vcells_nil] at hj
      | cons y ys =>
        have h2 := (h.below hb1)
        obtain ⟨b, off, e, _⟩ := h2 0 y rfl
        injection e with e
        subst e
        exact h2.cells)
    have HL := Lib.hid (show (vcells vs).length = n * 2 by rw [vcells_length, hn])
    clear h hb1
    have hE : ∀ W, (binOp .eql 22 (.slice (some ad) n c) (.slice none 0 0)).run Tryd.prog W = .ok (.bool false) W := fun W => by kernel_rfl
    go_enter Tryd.func50, Tryd.ntmps50
    go_wp2_with (refine wpList_append_own _ (by rfl) _ _ _ (by rfl) w.heap.size 78 i0 _ 2 16 Tryd.underlying22 hi hz0 hz1 hz2 rfl (by decide) (.slice (some ⟨w.heap.size, 0, none⟩) 0 0) 0 [] (by rfl) hO ad n c (vcells vs) (by rfl) HL.out HC.out (vcells_one' vs) (by unfold maxLen; omega) (by omega) (by simp) ?_; intro v' w' ho hg _)
    go_ret
    have hb := ((below_new w (.cells #[] 78)).grown hg (by simp) (fun k e => by simp [Value.ownBlock] at e; omega))
    rw [List.nil_append, Nat.zero_add] at ho
    obtain ⟨A', c', rfl⟩ := own_form ho
    exact ⟨A', c', rfl, VRow.of_own ho, fun ad' e => by subst e; exact (ho.lt _ rfl).1, hb⟩
set_option maxHeartbeats 1000000 in
theorem cloneI_any (A : Option Addr) (n c : Nat) (zs : List Int) (w : World) (h : Row w A n c zs) (hl : n ≤ 1000) :
    Calls Tryd.prog 56 #[.slice A n c] w fun e w' => ∃ v, e = .returned v ∧ w'.ownsRow w.heap.size 3 1 v n (zs.map (Value.int .i64)) ∧ Below w.heap.size w w' := by
  cases A with
  | none =>
    have h1 := h.cap
    have h2 := h.len
    have h3 := h.nil rfl
    obtain rfl : n = 0 := by omega
    obtain rfl := List.length_eq_zero_iff.1 h2
    clear h h1 h2 h3
    have hE : ∀ W, (binOp .eql 42 (.slice none 0 c) (.slice none 0 0)).run Tryd.prog W = .ok (.bool true) W := fun W => by kernel_rfl
    go_enter Tryd.func56, Tryd.ntmps56
    go_wp2_with fail
    go_ret
    exact ⟨_, rfl, World.ownsRow_nil _ _ _ _, Below.refl _ _⟩
  | some ad =>
    have B1 := Lib.hid (below_new w (.cells #[] 3))
    have O1 := Lib.hid (own_no w w.heap.size 3 1 (Nat.le_refl _))
    have H := Lib.hid h
    clear h
    have hE : ∀ W, (binOp .eql 42 (.slice (some ad) n c) (.slice none 0 0)).run Tryd.prog W = .ok (.bool false) W := fun W => by kernel_rfl
    go_enter Tryd.func56, Tryd.ntmps56
    go_wp2_with (at_builtin; refine wpList_append_row rfl _ _ rfl w.heap.size (.slice (some ⟨w.heap.size, 0, none⟩) 0 0) 0 [] rfl O1.out (some ad) n c zs rfl (H.out.below B1.out) (by omega) B1.out.size ?_; intro v' w3 hown hg)
    have B3 := Lib.hid (B1.out.grown hg B1.out.size (fun k hk => (O1.out.lt k hk).1))
    rw [List.nil_append, Nat.zero_add] at hown
    go_ret
    exact ⟨_, rfl, hown, B3.out⟩
end Go.Proofs.YtcoccegmkcdeiaaDoor


/- Runs in plain mathematics: the example; what put and push keep. -/
namespace Go.Proofs.YtcoccegmkcdeiaaDoor.Jp
set_option linter.unusedVariables false

/-! ### The document's example -/
def exT : List (Int × Int) := [(-1, 0), (0, 1), (1, 2), (2, 3)]
def exS : Nat → Rn
  | 0 => ⟨exT, 2, [(0, [])], [[]], 1⟩
  | 1 => ⟨exT, 2, [(1, [])], [[]], 1⟩
  | 2 => ⟨exT, 2, [(2, [1])], [[]], 1⟩
  | 3 => ⟨exT, 2, [(3, [1, 2])], [[]], 1⟩
  | _ => ⟨exT, 2, [(4, [2])], [[1, 3]], 1⟩
theorem ex_new : new exT 2 = (exS 0, 0) := by
  unfold new
  rw [if_neg (by decide), if_neg (by decide)]
  rfl
theorem ex_may (k : Nat) (hk : k < 5) : May (exS k) := by
  have hr : ∀ (x : Int × List Int) (s : Int), Rp.may x s = true → ∀ (p : Nat) y, [x][p]? = some y → Rp.may y s = true := by
    intro x s h p y hy
    cases p with
    | zero => simp at hy; rw [← hy]; exact h
    | succ p => simp at hy
  have hon : ∀ k, onP (exS k) 0 = true := by
    intro k
    match k with
    | 0 => decide
    | 1 => decide
    | 2 => decide
    | 3 => decide
    | (n + 4) => exact (show onP ⟨exT, 2, [(4, [2])], [[1, 3]], 1⟩ 0 = true by decide)
  have hp0 : ∀ (x : Int × List Int) (p : Nat) y, [x][p]? = some y → p = 0 := by
    intro x p y hy
    cases p with
    | zero => rfl
    | succ p => simp at hy
  match k, hk with
  | 0, _ => exact ⟨by decide, by decide, by decide, by decide, by decide, by decide, by decide, fun p x hx => ⟨hr _ _ (by decide) p x hx, .inr (by rw [hp0 _ p x hx]; exact hon 0)⟩, by decide⟩
  | 1, _ => exact ⟨by decide, by decide, by decide, by decide, by decide, by decide, by decide, fun p x hx => ⟨hr _ _ (by decide) p x hx, .inr (by rw [hp0 _ p x hx]; exact hon 1)⟩, by decide⟩
  | 2, _ => exact ⟨by decide, by decide, by decide, by decide, by decide, by decide, by decide, fun p x hx => ⟨hr _ _ (by decide) p x hx, .inr (by rw [hp0 _ p x hx]; exact hon 2)⟩, by decide⟩
  | 3, _ => exact ⟨by decide, by decide, by decide, by decide, by decide, by decide, by decide, fun p x hx => ⟨hr _ _ (by decide) p x hx, .inr (by rw [hp0 _ p x hx]; exact hon 3)⟩, by decide⟩
  | 4, _ => exact ⟨by decide, by decide, by decide, by decide, by decide, by decide, by decide, fun p x hx => ⟨hr _ _ (by decide) p x hx, .inr (by rw [hp0 _ p x hx]; exact hon 4)⟩, by decide⟩
theorem ex_put (k : Nat) (hk : k < 4) : put (exS k) 0 ((k : Int) + 1) = (exS (k + 1), 0) := by
  have hM := ex_may k (by omega)
  have e : put (exS k) ((0 : Nat) : Int) ((k : Int) + 1) = (done (exS k) 0 ((k : Int) + 1), 0) := by
    refine put_done ?_ ?_ ?_
    · intro h
      rcases h with h | h | h | h
      · exact h hM
      · omega
      · have : (exS k).rings.length = 1 := by
          match k, hk with
          | 0, _ => rfl
          | 1, _ => rfl
          | 2, _ => rfl
          | 3, _ => rfl
        omega
      · omega
    · match k, hk with
      | 0, _ => decide
      | 1, _ => decide
      | 2, _ => decide
      | 3, _ => decide
    · match k, hk with
      | 0, _ => decide
      | 1, _ => decide
      | 2, _ => decide
      | 3, _ => decide
  rw [show (0 : Int) = ((0 : Nat) : Int) from rfl, e]
  match k, hk with
  | 0, _ => rfl
  | 1, _ => rfl
  | 2, _ => rfl
  | 3, _ => rfl

/-! ### What put and push keep -/
theorem put_next (x : Int × List Int) (g s : Int) : (Rp.put x g s).1.1 = g := by
  unfold Rp.put Rp.add
  split
  · rfl
  · split <;> rfl
theorem sub_flatten {l : List (List Int)} {x : List Int} (h : x ∈ l) : x.Sublist l.flatten := by
  induction l with
  | nil => simp at h
  | cons y l ih =>
    rw [List.flatten_cons]
    rcases List.mem_cons.1 h with rfl | h
    · exact List.sublist_append_left _ _
    · exact (ih h).trans (List.sublist_append_right _ _)
theorem ring_once {r : Rn} (h : Rp.Once (all r)) {x : Int × List Int} (hx : x ∈ r.rings) : Rp.Once (Rp.all x) := by
  have hs : (Rp.all x).Sublist (all r) := (sub_flatten (List.mem_map.2 ⟨x, hx, rfl⟩)).trans (List.sublist_append_left _ _)
  exact ⟨fun y hy => h.1 y (hs.subset hy), h.2.sublist hs⟩
theorem may_size {x : Int × List Int} {s : Int} (hs : 2 ≤ s) (h : Rp.may x s = true) : x.2.length ≤ s.toNat := by
  unfold Rp.may at h
  rw [Bool.and_eq_true, decide_eq_true_iff] at h
  have := h.1
  unfold Rp.sz at this
  rw [if_neg (by omega)] at this
  exact this
theorem may_of {x : Int × List Int} {s : Int} (hs : 2 ≤ s) (h : x.2.length ≤ s.toNat) (ho : Rp.Once (Rp.all x)) : Rp.may x s = true := by
  unfold Rp.may
  rw [Bool.and_eq_true, decide_eq_true_iff, decide_eq_true_iff]
  unfold Rp.sz
  rw [if_neg (by omega)]
  exact ⟨h, ho⟩
theorem ringAt_some {r : Rn} {k : Nat} {x : Int × List Int} (h : r.rings[k]? = some x) : ringAt r k = x := by unfold ringAt; rw [h]; rfl
theorem rowAt_some {r : Rn} {k : Nat} {x : List Int} (h : r.rows[k]? = some x) : rowAt r k = x := by unfold rowAt; rw [h]; rfl
theorem node_lt {r : Rn} (h : May r) {k : Nat} (hk : k < r.rings.length) : nodeOf r k < r.rows.length := by
  obtain ⟨m, e, hm⟩ := node_at h.tree (k := k) (by rw [← h.rings]; exact hk)
  unfold nodeOf
  rw [e, h.rows]
  exact hm
theorem done_may {r : Rn} (h : May r) {k : Nat} (hk : k < r.rings.length) {g : Int} (hg : 1 ≤ g) (hn : g ∉ all r) (ho : onP r k = true) : May (done r k g) := by
  obtain ⟨x, hx⟩ : ∃ x, r.rings[k]? = some x := ⟨_, List.getElem?_eq_getElem hk⟩
  have hp := perm_done (r := r) (p := k) (g := g) (by omega) hk (node_lt h hk)
  have honce : Rp.Once (all (done r k g)) := (Rp.Once.snoc h.once hg hn).perm hp.symm
  have hrl : (done r k g).rings.length = r.rings.length := by unfold done rowed ringed; simp
  refine ⟨h.tree, h.low, h.high, hrl.trans h.rings, by unfold done rowed ringed; simp only [List.length_set]; exact h.rows, h.some, fun z hz => by rw [hrl]; exact h.few z hz, fun p y hy => ?_, honce⟩
  have hym := List.mem_of_getElem? hy
  have hyo := ring_once honce hym
  have hy' : (r.rings.set k (Rp.put (ringAt r k) g r.size).1)[p]? = Option.some y := hy
  by_cases e : k = p
  · subst e
    rw [List.getElem?_set_self hk] at hy'
    injection hy' with hy'
    subst hy'
    refine ⟨may_of h.low ?_ hyo, .inr ho⟩
    rw [ringAt_some hx]
    have hl := may_size h.low (h.ring k x hx).1
    have hs2 := h.low
    have := (Rp.put_len x g r.size.toNat (by omega) hl).1
    rwa [show ((r.size.toNat : Nat) : Int) = r.size by omega] at this
  · rw [List.getElem?_set_ne e] at hy'
    exact h.ring p y hy'
theorem pushed_may {r : Rn} (h : May r) {n : Nat} (hk : n < r.rows.length) {g : Int} (hg : 1 ≤ g) (hn : g ∉ all r) : May (pushed r n g) := by
  have hp := perm_pushed (r := r) hk g
  have honce : Rp.Once (all (pushed r n g)) := (Rp.Once.snoc h.once hg hn).perm hp.symm
  exact ⟨h.tree, h.low, h.high, h.rings, by unfold pushed rowed; simp only [List.length_set]; exact h.rows, h.some, h.few, h.ring, honce⟩
theorem done_where {r : Rn} (h : May r) {k : Nat} (hk : k < r.rings.length) {g : Int} (hg : 1 ≤ g) (hn : g ∉ all r) : whr (done r k g) g = ((k : Int), -1) := by
  refine whr_ring (k := k) (x := (Rp.put (ringAt r k) g r.size).1) ?_ ?_ ?_
  · show (r.rings.set k (Rp.put (ringAt r k) g r.size).1)[k]? = _
    rw [List.getElem?_set_self hk]
  · rw [has_iff]
    unfold Rp.all
    rw [put_next, if_neg (by omega)]
    exact List.mem_cons_self ..
  · intro j hj y hy
    have hy' : (r.rings.set k (Rp.put (ringAt r k) g r.size).1)[j]? = Option.some y := hy
    rw [List.getElem?_set_ne (by omega)] at hy'
    rw [has_no]
    exact fun hm => hn (mem_all.2 (.inl ⟨y, List.mem_of_getElem? hy', hm⟩))
theorem pushed_where {r : Rn} {n : Nat} (hk : n < r.rows.length) {g : Int} (hn : g ∉ all r) : whr (pushed r n g) g = (-1, (n : Int)) := by
  refine whr_row (k := n) (l := rowAt r n ++ [g]) ?_ ?_ ?_ ?_
  · intro y hy
    rw [has_no]
    exact fun hm => hn (mem_all.2 (.inl ⟨y, hy, hm⟩))
  · show (r.rows.set n (rowAt r n ++ [g]))[n]? = _
    rw [List.getElem?_set_self hk]
  · rw [has_iff]
    simp
  · intro j hj y hy
    have hy' : (r.rows.set n (rowAt r n ++ [g]))[j]? = Option.some y := hy
    rw [List.getElem?_set_ne (by omega)] at hy'
    rw [has_no]
    exact fun hm => hn (mem_all.2 (.inr ⟨y, List.mem_of_getElem? hy', hm⟩))
theorem done_next {r : Rn} {k : Nat} (hk : k < r.rings.length) (g : Int) : ∃ l, (done r k g).rings[k]? = some (g, l) := by
  refine ⟨(Rp.put (ringAt r k) g r.size).1.2, ?_⟩
  show (r.rings.set k (Rp.put (ringAt r k) g r.size).1)[k]? = _
  rw [List.getElem?_set_self hk]
  exact congrArg some (Prod.ext (put_next _ _ _) rfl)
theorem pushed_row {r : Rn} {n : Nat} (hk : n < r.rows.length) (g : Int) : (pushed r n g).rows[n]? = some (rowAt r n ++ [g]) := by
  show (r.rows.set n (rowAt r n ++ [g]))[n]? = _
  rw [List.getElem?_set_self hk]
/-- Put did it: what was asked holds. -/
theorem put_ok {r : Rn} {p g : Int} (h : (put r p g).2 = 0) : ∃ k : Nat, p = k ∧ k < r.rings.length ∧ 1 ≤ g ∧ g ∉ all r ∧ onP r k = true ∧ May r ∧ put r p g = (done r k g, 0) := by
  by_cases h1 : ¬ May r ∨ p < 0 ∨ (r.rings.length : Int) ≤ p ∨ g < 1
  · rw [put_arg h1] at h
    exact absurd h (by simp)
  · by_cases h2 : Tp.has (all r) g = true
    · rw [put_there h1 h2] at h
      exact absurd h (by simp)
    · have h2' : Tp.has (all r) g = false := by cases e : Tp.has (all r) g; rfl; exact absurd e h2
      cases h3 : onP r p
      · rw [put_off h1 h2' h3] at h
        exact absurd h (by simp)
      · have hM : May r := Classical.byContradiction fun hn => h1 (.inl hn)
        obtain ⟨k, rfl⟩ := Int.eq_ofNat_of_zero_le (show 0 ≤ p by omega)
        exact ⟨k, rfl, by omega, by omega, has_no.1 h2', h3, hM, put_done h1 h2' h3⟩
theorem push_ok {r : Rn} {p g : Int} (h : (push r p g).2 = 0) : ∃ k : Nat, p = k ∧ k < r.rows.length ∧ 1 ≤ g ∧ g ∉ all r ∧ May r ∧ push r p g = (pushed r k g, 0) := by
  by_cases h1 : ¬ May r ∨ p < 0 ∨ (r.rows.length : Int) ≤ p ∨ g < 1
  · rw [push_arg h1] at h
    exact absurd h (by simp)
  · by_cases h2 : Tp.has (all r) g = true
    · rw [push_there h1 h2] at h
      exact absurd h (by simp)
    · have h2' : Tp.has (all r) g = false := by cases e : Tp.has (all r) g; rfl; exact absurd e h2
      have hM : May r := Classical.byContradiction fun hn => h1 (.inl hn)
      obtain ⟨k, rfl⟩ := Int.eq_ofNat_of_zero_le (show 0 ≤ p by omega)
      exact ⟨k, rfl, by omega, by omega, has_no.1 h2', hM, push_done h1 h2'⟩
/-- Put did not: the Runs are as they were. -/
theorem put_no {r : Rn} {p g : Int} (h : (put r p g).2 ≠ 0) : (put r p g).1 = r := by
  by_cases h1 : ¬ May r ∨ p < 0 ∨ (r.rings.length : Int) ≤ p ∨ g < 1
  · rw [put_arg h1]
  · by_cases h2 : Tp.has (all r) g = true
    · rw [put_there h1 h2]
    · have h2' : Tp.has (all r) g = false := by cases e : Tp.has (all r) g; rfl; exact absurd e h2
      cases h3 : onP r p
      · rw [put_off h1 h2' h3]
      · obtain ⟨k, rfl⟩ := Int.eq_ofNat_of_zero_le (show 0 ≤ p by omega)
        rw [put_done h1 h2' h3] at h
        exact absurd rfl h
theorem push_no {r : Rn} {p g : Int} (h : (push r p g).2 ≠ 0) : (push r p g).1 = r := by
  by_cases h1 : ¬ May r ∨ p < 0 ∨ (r.rows.length : Int) ≤ p ∨ g < 1
  · rw [push_arg h1]
  · by_cases h2 : Tp.has (all r) g = true
    · rw [push_there h1 h2]
    · have h2' : Tp.has (all r) g = false := by cases e : Tp.has (all r) g; rfl; exact absurd e h2
      obtain ⟨k, rfl⟩ := Int.eq_ofNat_of_zero_le (show 0 ≤ p by omega)
      rw [push_done h1 h2'] at h
      exact absurd rfl h

/-! ### New -/
theorem mem_ones {n : Nat} (hn : n ≤ 64) (z : Int) : z ∈ Zp.mem (2 ^ n - 1) ↔ 0 ≤ z ∧ z < n := by
  rw [Zp.mem_mem]
  constructor
  · rintro ⟨i, hi, rfl, hb⟩
    rw [Nat.testBit_two_pow_sub_one, decide_eq_true_iff] at hb
    omega
  · rintro ⟨h0, h1⟩
    obtain ⟨k, rfl⟩ := Int.eq_ofNat_of_zero_le h0
    exact ⟨k, by omega, rfl, by rw [Nat.testBit_two_pow_sub_one, decide_eq_true_iff]; omega⟩
theorem procs_pos {vs : List (Int × Int)} (h : Tp.may vs = true) : 1 ≤ (Dp.procs vs).length := by
  have T := (Tp.tree_iff vs).1 h
  obtain ⟨j, y, hj, hy⟩ := T.node
  obtain ⟨k, z, hk, hz, _⟩ := T.below hj hy
  have : (k : Int) ∈ Dp.procs vs := Tp.mem_those.2 ⟨k, z, rfl, hk, by rw [beq_iff_eq]; exact hz⟩
  exact List.length_pos_of_mem this
theorem made_all (vs : List (Int × Int)) (size : Int) : all (made vs size) = [] := by
  unfold all made
  simp only [List.map_replicate]
  rw [List.append_eq_nil_iff]
  constructor
  · rw [List.flatten_eq_nil_iff]
    intro l hl
    rw [List.eq_of_mem_replicate hl]
    rfl
  · rw [List.flatten_eq_nil_iff]
    intro l hl
    exact List.eq_of_mem_replicate hl
theorem made_may {vs : List (Int × Int)} {size : Int} (h : Tp.may vs = true) (h1 : ¬ size < 2) (h2 : ¬ 16 < size) : May (made vs size) := by
  have T := (Tp.tree_iff vs).1 h
  have h32 : (Dp.procs vs).length ≤ 32 := T.procs
  have hp := procs_pos h
  have hl : (made vs size).rings.length = (Dp.procs vs).length := by unfold made; simp
  refine ⟨h, by show 2 ≤ size; omega, by show size ≤ 16; omega, hl, by unfold made; simp, ?_, ?_, ?_, by rw [made_all]; exact ⟨fun x hx => by simp at hx, List.nodup_nil⟩⟩
  · intro e
    have : (0 : Int) ∈ Zp.mem (made vs size).on := (mem_ones (by omega) 0).2 ⟨by omega, by omega⟩
    rw [e] at this
    simp at this
  · intro z hz
    rw [hl]
    exact ((mem_ones (n := (Dp.procs vs).length) (by omega) z).1 hz).2
  · intro p x hx
    have hx' : (List.replicate (Dp.procs vs).length ((0 : Int), ([] : List Int)))[p]? = some x := hx
    have := List.eq_of_mem_replicate (List.mem_of_getElem? hx')
    subst this
    refine ⟨?_, .inl rfl⟩
    exact may_of (show 2 ≤ (made vs size).size from by show 2 ≤ size; omega) (by simp) ⟨fun x hx => by simp [Rp.all] at hx, by simp [Rp.all]⟩
/-- What New tells: refused, or Runs in which nobody stands. -/
theorem new_is (vs : List (Int × Int)) (size : Int) : ((new vs size).2 ≠ 0 ∧ (new vs size).1 = zero) ∨ (new vs size = (made vs size, 0) ∧ May (made vs size)) := by
  unfold new
  by_cases h : Tp.may vs = false
  · rw [if_pos h]
    exact .inl ⟨by decide, rfl⟩
  · rw [if_neg h]
    by_cases h1 : size < 2 ∨ 16 < size
    · rw [if_pos h1]
      exact .inl ⟨by decide, rfl⟩
    · rw [if_neg h1]
      exact .inr ⟨rfl, made_may (by cases e : Tp.may vs; exact absurd e h; rfl) (by omega) (by omega)⟩
end Go.Proofs.YtcoccegmkcdeiaaDoor.Jp


/- A box and a result's place, what a call leaves that tells Runs and an error, in memory. -/
namespace Go.Proofs.YtcoccegmkcdeiaaDoor
open Go.RowKit
set_option linter.unusedVariables false

/-- A box, and a result's place. -/
theorem boxes2 (w : World) (p0 p1 p2 p3 p4 z0 z1 z2 z3 z4 : Value) (T U : TypeId) : ∃ V, V = (w.alloc (.cells #[p0, p1, p2, p3, p4] T)).alloc (.cells #[z0, z1, z2, z3, z4] U) ∧
    B5 V w.heap.size p0 p1 p2 p3 p4 ∧ C5 V (w.heap.size + 1) z0 z1 z2 z3 z4 ∧ Below w.heap.size w V ∧ w.heap.size + 1 < V.heap.size := by
  have a1 := B5.new w p0 p1 p2 p3 p4 T
  have a2 := C5.new (w.alloc (.cells #[p0, p1, p2, p3, p4] T)) z0 z1 z2 z3 z4 U
  have s1 : (w.alloc (.cells #[p0, p1, p2, p3, p4] T)).heap.size = w.heap.size + 1 := by simp
  rw [s1] at a2
  exact ⟨_, rfl, a1.step (below_new _ _), a2, ((Below.refl _ w).alloc (Nat.le_refl _) _).alloc (by simp) _, by simp⟩
theorem TellJE.is {F : Nat → Prop} {w0 w' : World} {d : Ad} {r : Jp.Rn} {e : Int} {p : Jp.Rn × Int} (hp : p = (r, e)) (h : RM (More F w0) w' d r) (hb : Below w0.heap.size w0 w') : TellJE F w0 p (.returned (.tuple #[jv d r, .int .i64 e])) w' := by
  subst hp
  exact ⟨d, rfl, h, hb⟩
/-- What the result's place holds, told. -/
theorem RM.put {F : Nat → Prop} {w : World} {d : Ad} {r : Jp.Rn} (h : RM F w d r) {X : Nat} (hX : ¬ F X) (u0 u1 u2 u3 u4 : Value) : RM F (put5 w X u0 u1 u2 u3 u4) d r := ((((h.far hX 0 u0).far hX 1 u1).far hX 2 u2).far hX 3 u3).far hX 4 u4
theorem put5_told {W : World} {b : Nat} {v0 v1 v2 v3 v4 : Value} (h : C5 W b v0 v1 v2 v3 v4) (u0 u1 u2 u3 u4 : Value) :
    (put5 W b u0 u1 u2 u3 u4).cell? ⟨b, 0, none⟩ = some u0 ∧ (put5 W b u0 u1 u2 u3 u4).cell? ⟨b, 1, none⟩ = some u1 ∧ (put5 W b u0 u1 u2 u3 u4).cell? ⟨b, 2, none⟩ = some u2 ∧ (put5 W b u0 u1 u2 u3 u4).cell? ⟨b, 3, none⟩ = some u3 ∧ (put5 W b u0 u1 u2 u3 u4).cell? ⟨b, 4, none⟩ = some u4 :=
  ⟨(h.put u0 u1 u2 u3 u4).b5.c0, (h.put u0 u1 u2 u3 u4).b5.c1, (h.put u0 u1 u2 u3 u4).b5.c2, (h.put u0 u1 u2 u3 u4).b5.c3, (h.put u0 u1 u2 u3 u4).b5.c4⟩
end Go.Proofs.YtcoccegmkcdeiaaDoor


/- Rings and rows of nobody; the first k bits. -/
namespace Go.Proofs.YtcoccegmkcdeiaaDoor
open Go.RowKit
set_option linter.unusedVariables false

def noRing : El := ⟨0, [], none, 0, 0⟩
theorem noRing_row (w : World) (k : Nat) : ∀ e ∈ List.replicate k noRing, Row w e.A e.n e.c e.l := fun e he => by
  rw [List.eq_of_mem_replicate he]
  exact Row.nothing w
theorem noRing_lie (F : Nat → Prop) (k : Nat) : ∀ e ∈ List.replicate k noRing, e.l ≠ [] → ∀ ad, e.A = some ad → F ad.block := fun e he hne => by
  rw [List.eq_of_mem_replicate he] at hne
  exact absurd rfl hne
theorem noRing_apart (v : Value) (k : Nat) : ∀ e ∈ List.replicate k noRing, Apart v e := fun e he hne => by
  rw [List.eq_of_mem_replicate he] at hne
  exact absurd rfl hne
theorem rm_zero (F : Nat → Prop) (w : World) : RM F w ⟨none, 0, 0, none, 0, 0, none, 0, 0⟩ Jp.zero :=
  ⟨rfl, by decide, (fun x hx => by simp [Jp.zero] at hx), (fun i z hi => by simp [Jp.zero] at hi), fun h => absurd rfl h, ⟨[], XR.nothing w, rfl, ⟨fun h => absurd rfl h, fun e he => by simp at he⟩⟩, ⟨[], XR.nothing w, rfl, ⟨fun h => absurd rfl h, fun e he => by simp at he⟩⟩, by decide, ⟨by decide, by decide⟩⟩
def pm (k : Nat) : Nat := 2 ^ k - 1
theorem pm_bit (k i : Nat) : (pm k).testBit i = decide (i < k) := by unfold pm; rw [Nat.testBit_two_pow_sub_one]
theorem pm_lt {k : Nat} (hk : k ≤ 64) : pm k < 18446744073709551616 := by
  have h1 : 2 ^ k ≤ 2 ^ 64 := Nat.pow_le_pow_right (by decide) hk
  have h2 : 1 ≤ 2 ^ k := Nat.one_le_two_pow
  unfold pm
  omega
theorem wth_pm {k : Nat} (hk : k < 64) : Zp.wth (pm k) (k : Int) = pm (k + 1) := by
  refine Zp.ext64 (Zp.wth_lt (pm_lt (by omega)) _) (pm_lt (by omega)) (fun i hi => ?_)
  rw [Zp.wth_bit, pm_bit, pm_bit]
  by_cases h1 : i < k
  · have h2 : i < k + 1 := by omega
    simp [h1, h2]
  · by_cases h2 : i = k
    · subst h2; simp [hk]
    · have h3 : ¬ i < k + 1 := by omega
      have h4 : ¬ ((i : Int) = (k : Int)) := by omega
      simp [h1, h3, h4]
end Go.Proofs.YtcoccegmkcdeiaaDoor


/- The document's All, by its contract: who stands in the rings, and then in the rows. -/
namespace Go.Proofs.YtcoccegmkcdeiaaDoor
open Go.RowKit
set_option linter.unusedVariables false

set_option maxHeartbeats 1000000 in
theorem jrefAll_any {F : Nat → Prop} (d : Ad) (r : Jp.Rn) (w : World) (h : RM F w d r) (hlow : Low r) :
    Calls Tryd.prog 26 #[jv d r] w (MadeR w (Jp.all r)) := by
  obtain ⟨T, nt, ct, R, nr, cr, S, ns, cs⟩ := d
  have H := Lib.hid h
  have HL := Lib.hid hlow
  obtain ⟨hr1, hr2, hr3⟩ := h.nr
  obtain ⟨hs1, hs2, hs3⟩ := h.ns
  have hr4 := hlow.rings
  have hs4 := hlow.rows
  simp only at hr1 hr2 hr3 hs1 hs2 hs3
  clear h hlow
  obtain ⟨V, hV, hX, hB⟩ := B5.start w (.slice T nt ct) (.int .i64 r.size) (.slice R nr cr) (.slice S ns cs) (.int .u64 (r.on : Nat)) 27
  have E := Lib.hid hV
  have X0 := Lib.hid hX
  have B0 := Lib.hid hB
  clear hV hX hB
  unfold jv
  go_enter Tryd.func26, Tryd.ntmps26
  go_wp2_with fail
  rw [← E.out]
  clear E
  go_loopw [3, 4] (fun u i wr => ∃ k : Nat, k ≤ nr ∧ i = .int .i64 k ∧ Hid (wr.ownsRow V.heap.size 3 1 u (ringsTo r k).length ((ringsTo r k).map (Value.int .i64))) ∧ Hid (Below V.heap.size V wr)) (fun _ i _ => nr - (intOf i).toNat)
  case atStart => exact ⟨0, Nat.zero_le _, rfl, Lib.hid (World.ownsRow_nil _ _ _ _), Lib.hid (Below.refl _ _)⟩
  case round =>
    obtain ⟨k, hk, rfl, HO, HB⟩ := hrel
    have hB1 := B0.out.trans (HB.out.mono B0.out.size)
    have HM := Lib.hid (H.out.below hB1)
    have B1 := Lib.hid hB1
    have X1 := X0.out.step HB.out
    have d2 := X1.c2
    have d3 := X1.c3
    clear X1 hB1
    obtain ⟨u0, v0, rfl, _⟩ := Row.of_own HO.out
    by_cases hlt : k < nr
    · obtain ⟨x, hx⟩ : ∃ x, r.rings[k]? = some x := ⟨_, List.getElem?_eq_getElem (by omega)⟩
      obtain ⟨b, off, A, n, c, hR, _, c0, c1, hrow⟩ := HM.out.ringAt hx
      simp only at hR
      subst hR
      have hn : n ≤ 400 := by rw [← hrow.len]; exact HL.out.ring x (List.mem_of_getElem? hx)
      have HC := Lib.hid (refAll_any x.1 A n c x.2 wr hrow (by omega))
      have HT := Lib.hid (ringsTo_succ hx)
      have HLE := Lib.hid (ringsTo_le HL.out k)
      have hxl := Rp.all_length x
      have HXL := Lib.hid (show (Rp.all x).length ≤ 401 by rw [hrow.len] at hxl; omega)
      have i0 : (0 : Int) ≤ (k : Int) := by omega
      have i1 : (k : Int) < (nr : Int) := by omega
      clear hx hrow hxl hr1 hs1 HM
      go_wp2_with fail
      refine HC.out.mono ?_
      rintro e w2 ⟨A2, n2, c2, rfl, hr2, hb2⟩
      have R2 := Lib.hid (show Row w2 A2 n2 c2 (Rp.all x) from hr2)
      have HN := Lib.hid (show (Rp.all x).length = n2 from hr2.len)
      have O2 := Lib.hid (own_below HO.out hb2)
      have B2 := Lib.hid (B1.out.trans (hb2.mono B1.out.size))
      have HB2 := Lib.hid (HB.out.trans (hb2.mono HB.out.size))
      clear hr2 hb2 HC c0 c1 d2 d3
      go_wp2_with (at_builtin; refine wpList_append_row rfl _ _ rfl V.heap.size _ _ _ rfl O2.out A2 n2 c2 _ rfl R2.out (by have := HLE.out; have := HXL.out; have := HN.out; omega) HB2.out.size ?_; intro v' w3 hown hg)
      have O3 := Lib.hid (show w3.ownsRow V.heap.size 3 1 v' (ringsTo r (k + 1)).length ((ringsTo r (k + 1)).map (Value.int .i64)) by rw [HT.out, List.length_append, HN.out]; exact hown)
      have B3 := Lib.hid (HB2.out.grown hg HB2.out.size (fun j hj => (O2.out.lt j hj).1))
      clear hown hg R2
      go_wp2_with fail
      go_roundw
      case rel => exact ⟨k + 1, by omega, by go_num, O3, B3⟩
      case measure => simp [intOf]; omega
    · obtain rfl : k = nr := by omega
      have HRA := Lib.hid (show ringsTo r k = rowsTo r 0 by rw [rowsTo_zero, hr1])
      obtain ⟨wo, rfl⟩ : ∃ wo : World, wo = wr := ⟨_, rfl⟩
      go_wp2_with fail
      clear d2 d3
      go_loopw [3, 5] (fun u i wr => ∃ j : Nat, j ≤ ns ∧ i = .int .i64 j ∧ Hid (wr.ownsRow V.heap.size 3 1 u (rowsTo r j).length ((rowsTo r j).map (Value.int .i64))) ∧ Hid (Below V.heap.size V wr)) (fun _ i _ => ns - (intOf i).toNat)
      case atStart => exact ⟨0, Nat.zero_le _, rfl, by rw [← HRA.out]; exact HO, HB⟩
      case round =>
        clear HO HB B1 HM
        obtain ⟨j, hj, rfl, HO, HB⟩ := hrel
        have hB1 := B0.out.trans (HB.out.mono B0.out.size)
        have HM := Lib.hid (H.out.below hB1)
        have B1 := Lib.hid hB1
        have X1 := X0.out.step HB.out
        have d2 := X1.c2
        have d3 := X1.c3
        clear X1 hB1
        obtain ⟨u1, v1, rfl, _⟩ := Row.of_own HO.out
        by_cases hlj : j < ns
        · obtain ⟨x, hx⟩ : ∃ x, r.rows[j]? = some x := ⟨_, List.getElem?_eq_getElem (by omega)⟩
          obtain ⟨b, off, A, n, c, hR, _, c0, hrow⟩ := HM.out.rowAt hx
          simp only at hR
          subst hR
          have hn : n ≤ 400 := by rw [← hrow.len]; exact HL.out.row x (List.mem_of_getElem? hx)
          have HT := Lib.hid (rowsTo_succ hx)
          have HLE := Lib.hid (rowsTo_le HL.out j)
          have R2 := Lib.hid hrow
          have HN := Lib.hid hrow.len
          have i0 : (0 : Int) ≤ (j : Int) := by omega
          have i1 : (j : Int) < (ns : Int) := by omega
          clear hx hrow hr1 hs1 HM
          go_wp2_with (at_builtin; refine wpList_append_row rfl _ _ rfl V.heap.size _ _ _ rfl HO.out A n c _ rfl R2.out (by have := HLE.out; omega) HB.out.size ?_; intro v' w3 hown hg)
          have O3 := Lib.hid (show w3.ownsRow V.heap.size 3 1 v' (rowsTo r (j + 1)).length ((rowsTo r (j + 1)).map (Value.int .i64)) by rw [HT.out, List.length_append, HN.out]; exact hown)
          have B3 := Lib.hid (HB.out.grown hg HB.out.size (fun j hj => (HO.out.lt j hj).1))
          clear hown hg R2 c0 d2 d3
          go_wp2_with fail
          go_roundw
          case rel => exact ⟨j + 1, by omega, by go_num, O3, B3⟩
          case measure => simp [intOf]; omega
        · obtain rfl : j = ns := by omega
          have hO := HO.out
          rw [← hs1, rowsTo_all] at hO
          obtain ⟨A3, c3, e3, hr3, hf3⟩ := Row.of_own' hO
          injection e3 with e31 e32 e33
          subst e31 e33
          have HM2 := Lib.hid (show MadeR w (Jp.all r) (.returned (.slice u1 (rowsTo r j).length v1)) wr from ⟨u1, _, v1, by rw [← hs1, rowsTo_all], hr3, hf3.mono B0.out.size, B1.out⟩)
          go_wp2_with fail
          go_ret
          exact HM2.out
end Go.Proofs.YtcoccegmkcdeiaaDoor

