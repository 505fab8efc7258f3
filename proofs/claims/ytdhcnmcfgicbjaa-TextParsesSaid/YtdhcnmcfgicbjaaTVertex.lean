/- The document's own way to read a vertex comes to a plain function. -/
import Derived.Test.YtdhcnmcfgicbjaaTRef
import Derived.Test.YtdhcnmcfgicbjaaTVx
import Derived.Laws.AppendOwnNone
namespace Go.Proofs.Ytdhcnmcfgicbjaa
open Go.RowKit
set_option linter.unusedVariables false

/-- A list of vertices appended to a row of the call's own, nil or not. -/
theorem wpList_append_vx {w : World} {ops : Array Oper} {rest : List Oper} {o : Oper} {a : Act} {Q : Exit → Act → World → Prop} (hgd : o.guard = none) (s x : Operand)
    (ho : o.op = .call { callee := .builtin .append, args := #[s, x], argTypes := #[22, 22] })
    (base : Nat) (v : Value) (n : Nat) (xs : List Value) (hs : a.eval s = v) (hown : w.ownsRow base 42 2 v n xs)
    (B : Nat) (A : Option Addr) (m c : Nat) (vs : List (Int × Int)) (hx : a.eval x = .slice A m c) (hr : VRow w B A vs) (hm : vs.length = m) (hnil : A = none → c = 0) (h63 : n + m ≤ 4611686018427387904) (hby : (n + m) * 16 ≤ 140737488355328) (hbase : base ≤ w.heap.size)
    (h : ∀ v' w', w'.ownsRow base 42 2 v' (n + m) (xs ++ vcells vs) → w.grownBy w' v.ownBlock → wpList Try.prog ops Q rest (a.put o.dst v') w') : wpList Try.prog ops Q (o :: rest) a w := by
  obtain ⟨i0, hi, hz0, hz1, hz2⟩ := info_parts info_vx
  cases A with
  | none =>
    have hv : vs = [] := by
      cases vs with
      | nil => rfl
      | cons y ys =>
        obtain ⟨b, off, e, _⟩ := hr 0 y rfl
        cases e
    subst hv
    have hm0 : m = 0 := by rw [← hm]; rfl
    subst hm0
    rw [hnil rfl] at hx
    exact wpList_append_own_none hgd s x _ ho base 42 i0 2 Try.underlying22 hi v n xs hs hown hx (h v w (by rw [vcells_nil, List.append_nil, Nat.add_zero]; exact hown) (World.grownBy.refl w _))
  | some ad =>
    have hcells : ∀ j u, (vcells vs)[j]? = some u → w.cell? (ad.add j) = some u := by
      cases vs with
      | nil => intro j u hj; simp [vcells] at hj
      | cons y ys =>
        obtain ⟨b, off, e, _⟩ := hr 0 y rfl
        injection e with e
        subst e
        exact hr.cells
    exact wpList_append_own w hgd s x _ ho base 42 i0 _ 2 16 Try.underlying22 hi hz0 hz1 hz2 rfl (by decide) v n xs hs hown ad m c (vcells vs) hx (by rw [vcells_length, hm]) hcells (vcells_one' vs) (by unfold maxLen; omega) hby hbase
      (fun v' w' h1 h2 _ => h v' w' h1 h2)
theorem idx_letter (l : Nat) (hl : l ≤ 3) (W : World) : (Instr.index 9 (.string ⟨#[109, 110, 99, 112]⟩) (.int .i64 (l : Int))).run Try.prog W = .ok (.int .u8 ((Tx.lt l).toNat : Int)) W := by
  rcases (show l = 0 ∨ l = 1 ∨ l = 2 ∨ l = 3 by omega) with rfl | rfl | rfl | rfl <;> kernel_rfl
theorem idx_byte (s : ByteArray) (i : Nat) (hi : i < s.size) (W : World) : (Instr.index 9 (.string s) (.int .i64 (i : Int))).run Try.prog W = .ok (.int .u8 ((s[i]'hi).toNat : Int)) W := by
  go_simp
theorem idx_p (W : World) : (Instr.index 9 (.string ⟨#[109, 110, 99, 112]⟩) (.int .i64 3)).run Try.prog W = .ok (.int .u8 112) W := by kernel_rfl
/-- An address that doesn't lie in a block. -/
def Avoid (A : Option Addr) (X : Nat) : Prop := ∀ ad, A = some ad → ad.block ≠ X
/-- What a call leaves that has read a vertex. -/
def Vxd (w0 : World) (s : ByteArray) (A : Option Addr) (g : Tx.Got) (e : Ending) (w' : World) : Prop :=
  ∃ A' c', e = .returned (.agg #[.slice A' g.t.length c', .int .i64 ((s.size - g.l.length : Nat) : Int), .bool g.is]) ∧ VRow w' w'.heap.size A' g.t ∧ Below w0.heap.size w0 w' ∧ (A' = none → c' = 0) ∧ (∀ X, X < w0.heap.size → Avoid A X → Avoid A' X) ∧ ∀ X, w'.heap.size ≤ X → Avoid A' X
theorem head_none {s : ByteArray} {k : Nat} (h : s.size ≤ k) : s.data.toList.drop k = [] := List.drop_of_length_le (by rw [show s.data.toList.length = s.size from Array.length_toList]; exact h)
theorem left_len (s : ByteArray) (k : Nat) (h : k ≤ s.size) : s.size - (s.data.toList.drop k).length = k := by
  rw [List.length_drop, show s.data.toList.length = s.size from Array.length_toList]; omega
theorem own_slice {w : World} {base n : Nat} {e : TypeId} {size : Nat} {v : Value} {xs : List Value} (h : w.ownsRow base e size v n xs) : ∃ A c, v = .slice A n c ∧ (A = none → c = 0) ∧ (∀ X, X < base → Avoid A X) ∧ ∀ X, w.heap.size ≤ X → Avoid A X := by
  have hlt := h.lt
  rcases h.2 with ⟨rfl, rfl⟩ | ⟨g, cap, cur, rfl, hb, _⟩
  · exact ⟨none, 0, rfl, fun _ => rfl, (fun X _ ad e => by cases e), (fun X _ ad e => by cases e)⟩
  · refine ⟨some ⟨g, 0, none⟩, cap, rfl, (fun e => by cases e), fun X hX ad e => ?_, fun X hX ad e => ?_⟩
    · injection e with e
      subst e
      simp only
      omega
    · injection e with e
      subst e
      have := hlt g rfl
      simp only
      omega
/-- The box of a reading, and the place of its result, beside the vertices. -/
structure Box (w0 W : World) (A0 A : Option Addr) (n c : Nat) (t : List (Int × Int)) (k : Nat) (is : Bool) : Prop where
  c0 : W.cell? ⟨w0.heap.size, 0, none⟩ = some (.slice A n c)
  c1 : W.cell? ⟨w0.heap.size, 1, none⟩ = some (.int .i64 k)
  c2 : W.cell? ⟨w0.heap.size, 2, none⟩ = some (.bool is)
  f : ∀ j, j < 3 → W.frozen? ⟨w0.heap.size, j, none⟩ = false
  r : ∀ j, j < 3 → W.frozen? ⟨w0.heap.size + 1, j, none⟩ = false ∧ ∃ u, W.cell? ⟨w0.heap.size + 1, j, none⟩ = some u
  below : Below w0.heap.size w0 W
  size : w0.heap.size + 2 ≤ W.heap.size
  row : VRow W W.heap.size A t
  av : Avoid A w0.heap.size ∧ Avoid A (w0.heap.size + 1)
  nil : A = none → c = 0
  keep : ∀ X, X < w0.heap.size → Avoid A0 X → Avoid A X
  inn : ∀ X, W.heap.size ≤ X → Avoid A X
theorem Box.start (w : World) (A : Option Addr) (n c : Nat) (t : List (Int × Int)) (k : Nat) (is : Bool) (q : Nat) (hr : VRow w w.heap.size A t) (hnil : A = none → c = 0) (hav : ∀ X, w.heap.size ≤ X → Avoid A X) (T : TypeId) (x0 x1 x2 : Value) :
    Box w (((w.alloc (.cells #[.slice A n c, .int .i64 k, .bool is] T)).alloc (.cells #[x0, x1, x2] T)).drewN q) A A n c t k is := by
  have hb : Below w.heap.size w (((w.alloc (.cells #[.slice A n c, .int .i64 k, .bool is] T)).alloc (.cells #[x0, x1, x2] T)).drewN q) := below_drewN (((Below.refl _ _).alloc (Nat.le_refl _) _).alloc (by simp) _) q
  have e1 : ∀ j, (((w.alloc (.cells #[.slice A n c, .int .i64 k, .bool is] T)).alloc (.cells #[x0, x1, x2] T)).drewN q).cell? ⟨w.heap.size, j, none⟩ = #[.slice A n c, .int .i64 k, .bool is][j]? := fun j => by
    show ((w.alloc (.cells #[.slice A n c, .int .i64 k, .bool is] T)).alloc (.cells #[x0, x1, x2] T)).cell? _ = _
    rw [World.cell?_alloc_lt _ _ _ (by simp), World.cell?_alloc_at _ _ _ _ rfl]
  have e2 : ∀ j, (((w.alloc (.cells #[.slice A n c, .int .i64 k, .bool is] T)).alloc (.cells #[x0, x1, x2] T)).drewN q).cell? ⟨w.heap.size + 1, j, none⟩ = #[x0, x1, x2][j]? := fun j => by
    show ((w.alloc (.cells #[.slice A n c, .int .i64 k, .bool is] T)).alloc (.cells #[x0, x1, x2] T)).cell? _ = _
    rw [World.cell?_alloc_at _ _ _ _ (by simp)]
  refine ⟨e1 0, e1 1, e1 2, fun j _ => ?_, fun j hj => ⟨?_, ?_⟩, hb, ?_, (hr.below hb).more hb.size, ⟨hav _ (Nat.le_refl _), hav _ (by omega)⟩, hnil, fun X _ h => h, fun X hX => hav X (by have := hb.size; omega)⟩
  · show ((w.alloc (.cells #[.slice A n c, .int .i64 k, .bool is] T)).alloc (.cells #[x0, x1, x2] T)).frozen? _ = _
    rw [World.frozen?_alloc_past _ _ _ (by simp), World.frozen?_alloc_at _ _ _ _ rfl]
  · show ((w.alloc (.cells #[.slice A n c, .int .i64 k, .bool is] T)).alloc (.cells #[x0, x1, x2] T)).frozen? _ = _
    rw [World.frozen?_alloc_at _ _ _ _ (by simp)]
  · rw [e2]
    rcases (show j = 0 ∨ j = 1 ∨ j = 2 by omega) with rfl | rfl | rfl <;> exact ⟨_, rfl⟩
  · show _ ≤ ((w.alloc (.cells #[.slice A n c, .int .i64 k, .bool is] T)).alloc (.cells #[x0, x1, x2] T)).heap.size
    simp
theorem Box.drewN {w0 W : World} {A0 A : Option Addr} {n c : Nat} {t : List (Int × Int)} {k : Nat} {is : Bool} (h : Box w0 W A0 A n c t k is) (q : Nat) : Box w0 (W.drewN q) A0 A n c t k is :=
  ⟨h.c0, h.c1, h.c2, h.f, h.r, below_drewN h.below q, h.size, h.row, h.av, h.nil, h.keep, h.inn⟩
/-- Memory beside the box and the result's place has come, or been written. -/
theorem Box.far {w0 W W' : World} {A0 A : Option Addr} {n c : Nat} {t : List (Int × Int)} {k : Nat} {is : Bool} (h : Box w0 W A0 A n c t k is) (hb : Below (w0.heap.size + 2) W W') (hr : VRow W' W'.heap.size A t) : Box w0 W' A0 A n c t k is :=
  ⟨by rw [hb.cell (by simp)]; exact h.c0, by rw [hb.cell (by simp)]; exact h.c1, by rw [hb.cell (by simp)]; exact h.c2, fun j hj => by rw [hb.frozen (by simp)]; exact h.f j hj,
    fun j hj => by rw [hb.frozen (by simp), hb.cell (by simp)]; exact h.r j hj, h.below.trans (hb.mono (by omega)), Nat.le_trans h.size hb.size, hr, h.av, h.nil, h.keep, fun X hX => h.inn X (by have := hb.size; omega)⟩
theorem row_set {W : World} {B X j : Nat} {A : Option Addr} {t : List (Int × Int)} {u : Value} (h : VRow W B A t) (ha : Avoid A X) : VRow (W.setCell ⟨X, j, none⟩ u) B A t := by
  intro i x hi
  obtain ⟨b, off, e, hb, h1, h2⟩ := h i x hi
  have hne := ha _ e
  simp only at hne
  exact ⟨b, off, e, hb, (World.cell?_setCell_other _ _ _ _ (fun e => by injection e with e; omega)).trans h1, (World.cell?_setCell_other _ _ _ _ (fun e => by injection e with e; omega)).trans h2⟩
theorem setCell_size (W : World) (a : Addr) (u : Value) : (W.setCell a u).heap.size = W.heap.size := by simp [World.setCell]
/-- The box's parts, written. -/
theorem Box.set0 {w0 W : World} {A0 A : Option Addr} {n c : Nat} {t : List (Int × Int)} {k : Nat} {is : Bool} (h : Box w0 W A0 A n c t k is) {A' : Option Addr} {n' c' : Nat} {t' : List (Int × Int)} (hr : VRow W W.heap.size A' t') (hav : Avoid A' w0.heap.size ∧ Avoid A' (w0.heap.size + 1)) (hnil : A' = none → c' = 0) (hk : ∀ X, X < w0.heap.size → Avoid A0 X → Avoid A' X) (hin : ∀ X, W.heap.size ≤ X → Avoid A' X) :
    Box w0 (W.setCell ⟨w0.heap.size, 0, none⟩ (.slice A' n' c')) A0 A' n' c' t' k is := by
  have o : ∀ j, j ≠ 0 → (W.setCell ⟨w0.heap.size, 0, none⟩ (.slice A' n' c')).cell? ⟨w0.heap.size, j, none⟩ = W.cell? ⟨w0.heap.size, j, none⟩ := fun j hj => World.cell?_setCell_other _ _ _ _ (fun e => by injection e with _ e; omega)
  refine ⟨World.cell?_setCell_same' _ _ _ (by rw [h.c0]; rfl), (o 1 (by omega)).trans h.c1, (o 2 (by omega)).trans h.c2, fun j hj => by rw [World.frozen?_setCell]; exact h.f j hj, fun j hj => ?_, h.below.setCell (Nat.le_refl _) _, by rw [setCell_size]; exact h.size, ?_, hav, hnil, hk, by rw [setCell_size]; exact hin⟩
  · rw [World.frozen?_setCell, World.cell?_setCell_other _ _ _ _ (fun e => by injection e with e; omega)]; exact h.r j hj
  · rw [setCell_size]; exact row_set hr hav.1
theorem Box.set1 {w0 W : World} {A0 A : Option Addr} {n c : Nat} {t : List (Int × Int)} {k : Nat} {is : Bool} (h : Box w0 W A0 A n c t k is) (k' : Nat) {z : Int} (hz : z = k') : Box w0 (W.setCell ⟨w0.heap.size, 1, none⟩ (.int .i64 z)) A0 A n c t k' is := by
  subst hz
  have o : ∀ j, j ≠ 1 → (W.setCell ⟨w0.heap.size, 1, none⟩ (.int .i64 k')).cell? ⟨w0.heap.size, j, none⟩ = W.cell? ⟨w0.heap.size, j, none⟩ := fun j hj => World.cell?_setCell_other _ _ _ _ (fun e => by injection e with _ e; omega)
  refine ⟨(o 0 (by omega)).trans h.c0, World.cell?_setCell_same' _ _ _ (by rw [h.c1]; rfl), (o 2 (by omega)).trans h.c2, fun j hj => by rw [World.frozen?_setCell]; exact h.f j hj, fun j hj => ?_, h.below.setCell (Nat.le_refl _) _, by rw [setCell_size]; exact h.size, ?_, h.av, h.nil, h.keep, by rw [setCell_size]; exact h.inn⟩
  · rw [World.frozen?_setCell, World.cell?_setCell_other _ _ _ _ (fun e => by injection e with e; omega)]; exact h.r j hj
  · rw [setCell_size]; exact row_set h.row h.av.1
theorem Box.set2 {w0 W : World} {A0 A : Option Addr} {n c : Nat} {t : List (Int × Int)} {k : Nat} {is : Bool} (h : Box w0 W A0 A n c t k is) (is' : Bool) : Box w0 (W.setCell ⟨w0.heap.size, 2, none⟩ (.bool is')) A0 A n c t k is' := by
  have o : ∀ j, j ≠ 2 → (W.setCell ⟨w0.heap.size, 2, none⟩ (.bool is')).cell? ⟨w0.heap.size, j, none⟩ = W.cell? ⟨w0.heap.size, j, none⟩ := fun j hj => World.cell?_setCell_other _ _ _ _ (fun e => by injection e with _ e; omega)
  refine ⟨(o 0 (by omega)).trans h.c0, (o 1 (by omega)).trans h.c1, World.cell?_setCell_same' _ _ _ (by rw [h.c2]; rfl), fun j hj => by rw [World.frozen?_setCell]; exact h.f j hj, fun j hj => ?_, h.below.setCell (Nat.le_refl _) _, by rw [setCell_size]; exact h.size, ?_, h.av, h.nil, h.keep, by rw [setCell_size]; exact h.inn⟩
  · rw [World.frozen?_setCell, World.cell?_setCell_other _ _ _ _ (fun e => by injection e with e; omega)]; exact h.r j hj
  · rw [setCell_size]; exact row_set h.row h.av.1
/-- The result is told. -/
theorem Box.told {w0 W : World} {s : ByteArray} {A0 A : Option Addr} {n c : Nat} {t : List (Int × Int)} {k : Nat} {is : Bool} (h : Box w0 W A0 A n c t k is) {g : Tx.Got} (hg : g = ⟨t, s.data.toList.drop k, is⟩) (hk : k ≤ s.size) (hn : t.length = n) (a b d : Value) :
    Vxd w0 s A0 g (.returned (.agg #[.slice A n c, .int .i64 k, .bool is])) (((W.setCell ⟨w0.heap.size + 1, 0, none⟩ a).setCell ⟨w0.heap.size + 1, 1, none⟩ b).setCell ⟨w0.heap.size + 1, 2, none⟩ d) := by
  subst hg
  refine ⟨A, c, ?_, ?_, ((h.below.setCell (by simp) _).setCell (by simp) _).setCell (by simp) _, h.nil, h.keep, by rw [setCell_size, setCell_size, setCell_size]; exact h.inn⟩
  · rw [left_len s k hk, hn]
  · rw [setCell_size, setCell_size, setCell_size]
    exact row_set (row_set (row_set h.row h.av.2) h.av.2) h.av.2
/-- A list of vertices, and one more, in new memory. -/
theorem Box.grown {w0 W : World} {A0 A : Option Addr} {n c : Nat} {t : List (Int × Int)} {k : Nat} {is : Bool} (h : Box w0 W A0 A n c t k is) {W2 : World} {v : Value} {x : Int × Int} (hb : Below (w0.heap.size + 2) W W2) (ho : W2.ownsRow (w0.heap.size + 2) 42 2 v (n + 1) (vcells (t ++ [x]))) :
    ∃ A' c', v = .slice A' (n + 1) c' ∧ Box w0 (W2.setCell ⟨w0.heap.size, 0, none⟩ (.slice A' (n + 1) c')) A0 A' (n + 1) c' (t ++ [x]) k is
      ∧ (W2.cell? ⟨w0.heap.size, 0, none⟩ = some (.slice A n c) ∧ W2.cell? ⟨w0.heap.size, 1, none⟩ = some (.int .i64 k) ∧ W2.cell? ⟨w0.heap.size, 2, none⟩ = some (.bool is))
      ∧ (∀ j, j < 3 → W2.frozen? ⟨w0.heap.size, j, none⟩ = false) ∧ (∀ j, j < 3 → W2.frozen? ⟨w0.heap.size + 1, j, none⟩ = false ∧ ∃ u, W2.cell? ⟨w0.heap.size + 1, j, none⟩ = some u) := by
  obtain ⟨A', c', rfl, h1, h2, h3⟩ := own_slice ho
  have hr' := VRow.of_own ho
  have B2 : Box w0 W2 A0 A' (n + 1) c' (t ++ [x]) k is ∨ True := .inr trivial
  have g0 : W2.cell? ⟨w0.heap.size, 0, none⟩ = some (.slice A n c) := by rw [hb.cell (by simp)]; exact h.c0
  have g1 : W2.cell? ⟨w0.heap.size, 1, none⟩ = some (.int .i64 k) := by rw [hb.cell (by simp)]; exact h.c1
  have g2 : W2.cell? ⟨w0.heap.size, 2, none⟩ = some (.bool is) := by rw [hb.cell (by simp)]; exact h.c2
  have gf : ∀ j, j < 3 → W2.frozen? ⟨w0.heap.size, j, none⟩ = false := fun j hj => by rw [hb.frozen (by simp)]; exact h.f j hj
  have gr : ∀ j, j < 3 → W2.frozen? ⟨w0.heap.size + 1, j, none⟩ = false ∧ ∃ u, W2.cell? ⟨w0.heap.size + 1, j, none⟩ = some u := fun j hj => by rw [hb.frozen (by simp), hb.cell (by simp)]; exact h.r j hj
  have o : ∀ j, j ≠ 0 → (W2.setCell ⟨w0.heap.size, 0, none⟩ (.slice A' (n + 1) c')).cell? ⟨w0.heap.size, j, none⟩ = W2.cell? ⟨w0.heap.size, j, none⟩ := fun j hj => World.cell?_setCell_other _ _ _ _ (fun e => by injection e with _ e; omega)
  refine ⟨A', c', rfl, ⟨World.cell?_setCell_same' _ _ _ (by rw [g0]; rfl), (o 1 (by omega)).trans g1, (o 2 (by omega)).trans g2, fun j hj => by rw [World.frozen?_setCell]; exact gf j hj, fun j hj => ?_, (h.below.trans (hb.mono (by omega))).setCell (Nat.le_refl _) _, by rw [setCell_size]; exact Nat.le_trans h.size hb.size, ?_, ⟨h2 _ (by omega), h2 _ (by omega)⟩, h1, fun X hX _ => h2 X (by omega), by rw [setCell_size]; exact h3⟩, ⟨g0, g1, g2⟩, gf, gr⟩
  · rw [World.frozen?_setCell, World.cell?_setCell_other _ _ _ _ (fun e => by injection e with e; omega)]; exact gr j hj
  · rw [setCell_size]; exact row_set hr' (h2 _ (by omega))
theorem row_two (w : World) (p l : Int) : VRow (w.alloc (.cells #[.int .i64 p, .int .i64 l] 42)) (w.heap.size + 1) (some ⟨w.heap.size, 0, none⟩) [(p, l)] := by
  intro i x hi
  have hl : i < 1 := (List.getElem?_eq_some_iff.1 hi).1
  have h0 : i = 0 := by omega
  subst h0
  injection hi with hi
  subst hi
  refine ⟨_, _, rfl, by omega, ?_, ?_⟩ <;> rw [World.cell?_alloc_at _ _ _ _ rfl] <;> rfl
/-- The two appends of a vertex, told together. -/
theorem grown_two {w W w1 w2 : World} {p l : Int} {v1 : Value} {t : List (Int × Int)} {n : Nat} {X : Obj} (hs : w.heap.size + 2 ≤ W.heap.size)
    (ho1 : w1.ownsRow (w.heap.size + 2) 42 2 v1 n (vcells t)) (hg1 : (W.alloc X).grownBy w1 (Value.slice (some ⟨W.heap.size, 0, none⟩) 0 0).ownBlock)
    (hg2 : (w1.alloc (.cells #[.int .i64 p, .int .i64 l] 42)).grownBy w2 v1.ownBlock) : Below (w.heap.size + 2) W w2 := by
  have h1 : Below (w.heap.size + 2) W w1 := ((Below.refl _ _).alloc hs _).grown hg1 (by simp; omega) (fun k hk => by simp [Value.ownBlock] at hk; omega)
  have h2 : w.heap.size + 2 ≤ w1.heap.size := Nat.le_trans hs h1.size
  exact (h1.alloc h2 _).grown hg2 (by simp; omega) (fun k hk => (ho1.lt k hk).1)
set_option maxHeartbeats 1600000 in
theorem leaf_any (s : ByteArray) (hs : s.size ≤ 2000) (A : Option Addr) (n c : Nat) (t : List (Int × Int)) (k : Nat) (p : Int) (w : World) (hk : k ≤ s.size) (hn : Hid (t.length = n)) (hnk : n ≤ k) (hr : VRow w w.heap.size A t) (hnil : A = none → c = 0) (hav : ∀ X, w.heap.size ≤ X → Avoid A X) :
    Calls Try.prog 20 #[.string s, .agg #[.slice A n c, .int .i64 k, .bool true], .int .i64 p, .int .i64 3] w (Vxd w s A (Tx.vx 0 p t (s.data.toList.drop k))) := by
  have hx1 := idx_p
  have BX := fun q T x0 x1 x2 => Box.start w A n c t k true q hr hnil hav T x0 x1 x2
  have HBX := Lib.hid BX
  have HNIL := Lib.hid hnil
  clear hnil BX
  by_cases hlt : k < s.size
  · have g1 : decide (s.size ≤ k) = false := by simp; omega
    obtain ⟨b, hb⟩ : ∃ b, s[k]'hlt = b := ⟨_, rfl⟩
    have hx2 := idx_byte s k hlt
    rw [hb] at hx2
    have HD := Lib.hid (byte_at s k hlt)
    rw [hb] at HD
    clear hb
    by_cases h112 : b = 112
    · subst h112
      have HG := Lib.hid (show Tx.vx 0 p t (s.data.toList.drop k) = ⟨t ++ [(p, 3)], s.data.toList.drop (k + 1), true⟩ by rw [HD.out]; rfl)
      clear hav
      go_enter Try.func20, Try.ntmps20
      go_wp2_with fail
      go_quiet (fail)
      have B1 := HBX.out nq 49 (.slice none 0 0) (.int .i64 0) (.bool false)
      have HB1 := Lib.hid B1
      have hown0 := own_empty (((w.alloc (.cells #[.slice A n c, .int .i64 k, .bool true] 49)).alloc (.cells #[.slice none 0 0, .int .i64 0, .bool false] 49)).drewN nq) (w.heap.size + 2) 42 B1.size
      have hro := (B1.row.below (below1 _ (.cells #[] 42)))
      clear B1
      go_wp2_with (at_builtin; refine wpList_append_vx rfl (.tmp 29) (.tmp 31) rfl (w.heap.size + 2) (.slice (some ⟨w.heap.size + 1 + 1, 0, none⟩) 0 0) 0 (vcells []) rfl ?o1 (w.heap.size + 2) A n c t rfl ?o2 hn.out HNIL.out (by omega) (by omega) ?o3 ?_)
      case o1 => simpa using hown0
      case o2 => simpa using hro
      case o3 => simp
      intro v1 w1 hown1 hg1
      rw [vcells_nil, List.nil_append] at hown1
      clear hown0 hro
      go_wp2_with (at_builtin; refine wpList_append_vx rfl (.tmp 32) (.tmp 36) rfl (w.heap.size + 2) v1 n (vcells t) rfl (hown1.alloc _) (w1.heap.size + 1) (some ⟨w1.heap.size, 0, none⟩) 1 1 [(p, 3)] rfl (row_two _ _ _) rfl (by intro e; cases e) (by omega) (by omega) ?o4 ?_)
      case o4 => have := hg1.size; simp at this; simp; omega
      intro v2 w2 hown2 hg2
      rw [← vcells_append] at hown2
      have hbb := grown_two (w := w) HB1.out.size hown1 (by simpa using hg1) hg2
      obtain ⟨A2, c2, rfl, B2, ⟨q0, q1, q2⟩, qf, qr⟩ := HB1.out.grown hbb hown2
      have HB2 := Lib.hid B2
      obtain ⟨f0, f1, f2⟩ := And.intro (qf 0 (by omega)) (And.intro (qf 1 (by omega)) (qf 2 (by omega)))
      obtain ⟨r0, u0, k0⟩ := qr 0 (by omega)
      obtain ⟨r1, u1, k1⟩ := qr 1 (by omega)
      obtain ⟨r2, u2, k2⟩ := qr 2 (by omega)
      clear B2 qf qr hown1 hg1 hg2 hbb hown2 HB1
      go_wp2_with fail
      refine bodyPost_ret (v := .agg #[.slice A2 (n + 1) c2, .int .i64 ((k + 1 : Nat) : Int), .bool true]) ?_ rfl ?_
      · simp [results, Try.results20, go_sem, k0, k1, k2]
      · exact (HB2.out.set1 (k + 1) rfl).told (by rw [HG.out]) (by omega) (by rw [List.length_append, hn.out]; rfl) _ _ _
    · have HG := Lib.hid (show Tx.vx 0 p t (s.data.toList.drop k) = ⟨t, s.data.toList.drop k, false⟩ by rw [Tx.vx, if_neg]; rw [HD.out]; intro e; injection e with e; exact h112 e)
      have hbb : ((b.toNat : Int) != 112) = true := by
        have := byte_eq b 112
        rw [bne, show (112 : Int) = ((112 : UInt8).toNat : Int) from rfl, this, beq_eq_false_iff_ne.2 h112]; rfl
      clear hav
      go_enter Try.func20, Try.ntmps20
      go_wp2_with fail
      go_quiet (fail)
      have HB1 := Lib.hid (HBX.out nq 49 (.slice none 0 0) (.int .i64 0) (.bool false))
      go_wp2_with fail
      refine bodyPost_ret (v := .agg #[.slice A n c, .int .i64 k, .bool false]) (by simp [results, Try.results20, go_sem]) rfl ?_
      exact (HB1.out.set2 false).told (by rw [HG.out]) hk hn.out _ _ _
  · have HG := Lib.hid (show Tx.vx 0 p t (s.data.toList.drop k) = ⟨t, s.data.toList.drop k, false⟩ by rw [Tx.vx, if_neg]; rw [head_none (by omega)]; intro e; cases e)
    have g1 : decide (s.size ≤ k) = true := by simp; omega
    clear hav
    go_enter Try.func20, Try.ntmps20
    go_wp2_with fail
    go_quiet (fail)
    have HB1 := Lib.hid (HBX.out nq 49 (.slice none 0 0) (.int .i64 0) (.bool false))
    go_wp2_with fail
    refine bodyPost_ret (v := .agg #[.slice A n c, .int .i64 k, .bool false]) (by simp [results, Try.results20, go_sem]) rfl ?_
    exact (HB1.out.set2 false).told (by rw [HG.out]) hk hn.out _ _ _
/-- What the reading of a vertex of level 3 - d does. -/
def VSpec (s : ByteArray) (d : Nat) : Prop :=
  ∀ (A : Option Addr) (n c : Nat) (t : List (Int × Int)) (k : Nat) (p z zl : Int) (w : World), z = k → zl = ((3 - d : Nat) : Int) → k ≤ s.size → Hid (t.length = n) → n ≤ k → VRow w w.heap.size A t → (A = none → c = 0) → (∀ X, w.heap.size ≤ X → Avoid A X) →
    Calls Try.prog 20 #[.string s, .agg #[.slice A n c, .int .i64 z, .bool true], .int .i64 p, .int .i64 zl] w (Vxd w s A (Tx.vx d p t (s.data.toList.drop k)))
theorem spec_leaf (s : ByteArray) (hs : s.size ≤ 2000) : VSpec s 0 := by
  intro A n c t k p z zl w hz hzl hk hn hnk hr hnil hav
  subst hz
  have hzl : zl = 3 := hzl
  subst hzl
  exact leaf_any s hs A n c t k p w hk hn hnk hr hnil hav
theorem idx_next (l : Nat) (hl : l ≤ 2) (W : World) : (Instr.index 9 (.string ⟨#[109, 110, 99, 112]⟩) (.int .i64 ((l : Int) + 1))).run Try.prog W = .ok (.int .u8 ((Tx.lt (l + 1)).toNat : Int)) W := idx_letter (l + 1) (by omega) W
theorem idx_next2 (s : ByteArray) (k : Nat) (hk : k + 1 < s.size) (W : World) : (Instr.index 9 (.string s) (.int .i64 ((k : Int) + 1))).run Try.prog W = .ok (.int .u8 ((s[k + 1]'hk).toNat : Int)) W := idx_byte s (k + 1) hk W
theorem byte_ne (a b : UInt8) : ((a.toNat : Int) != (b.toNat : Int)) = (a != b) := by rw [bne, byte_eq]; rfl
/-- Where the reading of a vertex stands, in numbers. -/
def atOf (w0 W : World) : Nat := match W.cell? ⟨w0.heap.size, 1, none⟩ with | some (.int _ z) => z.toNat | _ => 0
theorem Box.at_ {w0 W : World} {A0 A : Option Addr} {n c : Nat} {t : List (Int × Int)} {k : Nat} {is : Bool} (h : Box w0 W A0 A n c t k is) : atOf w0 W = k := by
  unfold atOf; rw [h.c1]; simp
set_option maxHeartbeats 4000000 in
set_option maxRecDepth 100000 in
theorem spec_inner (s : ByteArray) (hs : s.size ≤ 2000) (d : Nat) (hd : d ≤ 2) (ih : VSpec s d) : VSpec s (d + 1) := by
  intro A n c t k p z zl w hz hzl hk hn hnk hr hnil hav
  subst hz
  obtain ⟨l, hl⟩ : ∃ l, l = 2 - d := ⟨_, rfl⟩
  have hzl2 : zl = (l : Int) := by rw [hzl]; omega
  clear hzl
  subst hzl2
  have hl2 : l ≤ 2 := by omega
  have HL := Lib.hid hl
  have HIH := Lib.hid ih
  clear hl ih
  have hx1 := idx_letter l (by omega)
  have hxn := idx_next l hl2
  have e3 : ((l : Int) == 3) = false := by rw [beq_eq_false_iff_ne]; omega
  have BX := fun q T x0 x1 x2 => Box.start w A n c t k true q hr hnil hav T x0 x1 x2
  have HBX := Lib.hid BX
  have HNIL := Lib.hid hnil
  clear hnil BX hav
  by_cases hlt : k < s.size
  · have g1 : decide (s.size ≤ k) = false := by simp; omega
    obtain ⟨b, hb⟩ : ∃ b, s[k]'hlt = b := ⟨_, rfl⟩
    have hx2 := idx_byte s k hlt
    rw [hb] at hx2
    have HD := Lib.hid (byte_at s k hlt)
    rw [hb] at HD
    clear hb
    by_cases hbl : b = Tx.lt l
    · have hbb : ((b.toNat : Int) != ((Tx.lt l).toNat : Int)) = false := by rw [byte_ne, hbl]; simp
      have HD := Lib.hid (show s.data.toList.drop k = Tx.lt l :: s.data.toList.drop (k + 1) by rw [HD.out, hbl])
      have HBL := Lib.hid hbl
      clear hbl
      by_cases hlt2 : k + 1 < s.size
      · have HD2 := Lib.hid (byte_at s (k + 1) hlt2)
        have hx3 := idx_next2 s k hlt2
        obtain ⟨b2, hb2⟩ : ∃ b2, s[k + 1]'hlt2 = b2 := ⟨_, rfl⟩
        rw [hb2] at HD2 hx3
        clear hb2
        have g2 : decide (s.size ≤ k + 1) = false := by simp; omega
        have g3 : decide ((s.size : Int) ≤ (k : Int) + 1) = false := by simp; omega
        by_cases h40 : b2 = 40
        · subst h40
          have HG := Lib.hid (Tx.vx_open d hd p t (s.data.toList.drop k) (s.data.toList.drop (k + 2)) (by rw [HD.out, HD2.out, HL.out]))
          go_enter Try.func20, Try.ntmps20
          go_wp2_with fail
          go_quiet (fail)
          have B1 := HBX.out nq 49 (.slice none 0 0) (.int .i64 0) (.bool false)
          have HB1 := Lib.hid B1
          have hown0 := own_empty (((w.alloc (.cells #[.slice A n c, .int .i64 k, .bool true] 49)).alloc (.cells #[.slice none 0 0, .int .i64 0, .bool false] 49)).drewN nq) (w.heap.size + 2) 42 B1.size
          have hro := (B1.row.below (below1 _ (.cells #[] 42)))
          clear B1
          go_wp2_with (at_builtin; refine wpList_append_vx rfl (.tmp 29) (.tmp 31) rfl (w.heap.size + 2) (.slice (some ⟨w.heap.size + 1 + 1, 0, none⟩) 0 0) 0 (vcells []) rfl ?o1 (w.heap.size + 2) A n c t rfl ?o2 hn.out HNIL.out (by omega) (by omega) ?o3 ?_)
          case o1 => simpa using hown0
          case o2 => simpa using hro
          case o3 => simp
          intro v1 w1 hown1 hg1
          rw [vcells_nil, List.nil_append] at hown1
          clear hown0 hro
          go_wp2_with (at_builtin; refine wpList_append_vx rfl (.tmp 32) (.tmp 36) rfl (w.heap.size + 2) v1 n (vcells t) rfl (hown1.alloc _) (w1.heap.size + 1) (some ⟨w1.heap.size, 0, none⟩) 1 1 [(p, (l : Int))] rfl (row_two _ _ _) rfl (by intro e; cases e) (by omega) (by omega) ?o4 ?_)
          case o4 => have := hg1.size; simp at this; simp; omega
          intro v2 w2 hown2 hg2
          rw [← vcells_append] at hown2
          have hbb := grown_two (w := w) HB1.out.size hown1 (by simpa using hg1) hg2
          obtain ⟨A2, c2, rfl, B2, ⟨q0, q1, q2⟩, qf, qr⟩ := HB1.out.grown hbb hown2
          have HB2 := Lib.hid B2
          obtain ⟨f0, f1, f2⟩ := And.intro (qf 0 (by omega)) (And.intro (qf 1 (by omega)) (qf 2 (by omega)))
          obtain ⟨r0, u0, k0⟩ := qr 0 (by omega)
          obtain ⟨r1, u1, k1⟩ := qr 1 (by omega)
          obtain ⟨r2, u2, k2⟩ := qr 2 (by omega)
          clear B2 qf qr hown1 hg1 hg2 hbb hown2 HB1
          have HB3 := Lib.hid ((HB2.out.set1 (k + 1) (z := (k : Int) + 1) rfl).set1 (k + 2) (z := (k : Int) + 1 + 1) (by omega))
          have z0 := HB3.out.c0
          have z1 := HB3.out.c1
          have z2 := HB3.out.c2
          go_wp2_with fail
          clear z0 z1 z2 q0 q1 q2 f0 f1 f2 r0 k0 r1 k1 r2 k2 HBX HNIL HB2
          generalize (((w2.setCell ⟨w.heap.size, 0, none⟩ (.slice A2 (n + 1) c2)).setCell ⟨w.heap.size, 1, none⟩ (.int .i64 ((k : Int) + 1))).setCell ⟨w.heap.size, 1, none⟩ (.int .i64 ((k : Int) + 1 + 1))) = W3 at HB3 ⊢
          refine (HIH.out A2 (n + 1) c2 (t ++ [(p, (l : Int))]) (k + 2) n _ _ _ ?y1 ?y2 (by omega) ?y3 (by omega) HB3.out.row HB3.out.nil HB3.out.inn).mono ?_
          case y1 => omega
          case y2 => have := HL.out; omega
          case y3 => exact Lib.hid (by rw [List.length_append, hn.out]; rfl)
          rintro e w4 ⟨A4, c4, rfl, hv4, hb4, hn4, hk4, hi4⟩
          obtain ⟨g, hg⟩ : ∃ g, g = Tx.vx d (n : Int) (t ++ [(p, (l : Int))]) (s.data.toList.drop (k + 2)) := ⟨_, rfl⟩
          rw [← hg] at hv4 ⊢
          obtain ⟨a, haa⟩ : ∃ a, a = s.size - g.l.length := ⟨_, rfl⟩
          rw [← haa]
          have HAA := Lib.hid haa
          have HGG := Lib.hid hg
          have B4 := HB3.out.far (hb4.mono HB3.out.size) ((HB3.out.row.below hb4).more hb4.size)
          have x0 := B4.c0
          have x1 := B4.c1
          have x2 := B4.c2
          have hfz := B4.f
          obtain ⟨f0, f1, f2⟩ := And.intro (hfz 0 (by omega)) (And.intro (hfz 1 (by omega)) (hfz 2 (by omega)))
          have B5 := Lib.hid (((B4.set0 (n' := g.t.length) hv4 ⟨hk4 _ (by have := HB3.out.size; omega) HB3.out.av.1, hk4 _ (by have := HB3.out.size; omega) HB3.out.av.2⟩ hn4 (fun X hX h => hk4 X (by have := HB3.out.size; omega) (HB3.out.keep X hX h)) hi4).set1 a rfl).set2 g.is)
          obtain ⟨j0, hj0⟩ := Tx.vx_drop d (n : Int) (t ++ [(p, (l : Int))]) (s.data.toList.drop (k + 2))
          rw [← hg, List.drop_drop] at hj0
          have hda : s.data.toList.drop a = g.l := by
            rw [haa, hj0, show s.size = s.data.toList.length from Array.length_toList.symm]
            exact Tx.drop_left _ _
          have hgr := Tx.vx_grow d (n : Int) (t ++ [(p, (l : Int))]) (s.data.toList.drop (k + 2))
          rw [← hg, List.length_append, hn.out, List.length_drop, show s.data.toList.length = s.size from Array.length_toList] at hgr
          have hga : g.t.length ≤ a := by simp only [List.length_singleton] at hgr; omega
          have hal : a ≤ s.size := by omega
          have HM := Lib.hid (show Tx.vx (d + 1) p t (s.data.toList.drop k) = Tx.shut (Tx.more (Tx.vx d (n : Int)) (Tx.lt (l + 1)) (s.data.toList.drop a).length ⟨g.t, s.data.toList.drop a, g.is⟩) by
            rw [HG.out, hda, hn.out, ← HL.out, ← hg, show 3 - d = l + 1 by have := HL.out; omega])
          clear hg haa hv4 hb4 hn4 hk4 hi4 B4 hfz HB3 HG hj0 hda hgr HAA HGG
          go_wp2_with fail
          go_loopw [] (fun wr => ∃ (A' : Option Addr) (n' c' a : Nat) (t' : List (Int × Int)) (is : Bool), Hid (Box w wr A A' n' c' t' a is) ∧ a ≤ s.size ∧ n' ≤ a ∧ Hid (t'.length = n') ∧ Hid (Tx.vx (d + 1) p t (s.data.toList.drop k) = Tx.shut (Tx.more (Tx.vx d (n : Int)) (Tx.lt (l + 1)) (s.data.toList.drop a).length ⟨t', s.data.toList.drop a, is⟩))) (fun wr => s.size - atOf w wr)
          case atStart => exact ⟨A4, g.t.length, c4, a, g.t, g.is, B5, hal, hga, Lib.hid rfl, HM⟩
          case round =>
            clear x0 x1 x2 f0 f1 f2 B5 HM hal hga
            obtain ⟨A', n', c', a', t', is, hB, ha, hna, hnn, hM⟩ := hrel
            have x0 := hB.out.c0
            have x1 := hB.out.c1
            have x2 := hB.out.c2
            have hfz := hB.out.f
            obtain ⟨f0, f1, f2⟩ := And.intro (hfz 0 (by omega)) (And.intro (hfz 1 (by omega)) (hfz 2 (by omega)))
            have hqr := hB.out.r
            obtain ⟨r0, u0, k0⟩ := hqr 0 (by omega)
            obtain ⟨r1, u1, k1⟩ := hqr 1 (by omega)
            obtain ⟨r2, u2, k2⟩ := hqr 2 (by omega)
            clear hfz hqr
            cases is
            · have HG := Lib.hid (show Tx.vx (d + 1) p t (s.data.toList.drop k) = ⟨t', s.data.toList.drop a', false⟩ by
                rw [hM.out, Tx.more_stop (by rintro ⟨h, _⟩; cases h)]; rfl)
              go_wp2_with fail
              go_quiet (fail)
              go_wp2_with fail
              refine bodyPost_ret (v := .agg #[.slice A' n' c', .int .i64 a', .bool false]) ?_ rfl ?_
              · simp [results, Try.results20, go_sem, k0, k1, k2]
              · exact (hB.out.drewN _).told (by rw [HG.out]) (by omega) hnn.out _ _ _
            · by_cases hlt3 : a' < s.size
              · have HD3 := Lib.hid (byte_at s a' hlt3)
                have hx4 := idx_byte s a' hlt3
                obtain ⟨b3, hb3⟩ : ∃ b3, s[a']'hlt3 = b3 := ⟨_, rfl⟩
                rw [hb3] at HD3 hx4
                clear hb3
                have g4 : decide (a' < s.size) = true := by simp; omega
                have g5 : decide (s.size ≤ a') = false := by simp; omega
                by_cases hbl3 : b3 = Tx.lt (l + 1)
                · have hbb3 : ((b3.toNat : Int) == ((Tx.lt (l + 1)).toNat : Int)) = true := by rw [byte_eq, hbl3]; simp
                  have HSL := Lib.hid (show s.size = s.data.toList.length from Array.length_toList.symm)
                  have HGO := Lib.hid (Tx.more_go (c0 := Tx.lt (l + 1)) (V := Tx.vx d (n : Int)) (fun t l' h => Tx.vx_less (by omega) (n : Int) t (by rw [h, show 3 - d = l + 1 by have := HL.out; omega])) (g := ⟨t', s.data.toList.drop a', true⟩) ⟨rfl, by rw [HD3.out, hbl3]; rfl⟩)
                  have HLESS := Lib.hid (Tx.vx_less (d := d) (by omega) (n : Int) t' (l := s.data.toList.drop a') (by rw [HD3.out, hbl3, show 3 - d = l + 1 by have := HL.out; omega]; rfl))
                  clear hbl3
                  go_wp2_with fail
                  go_quiet (fail)
                  go_wp2_with fail
                  refine (HIH.out A' n' c' t' a' n _ _ _ rfl ?_ ha hnn hna (hB.out.drewN _).row hB.out.nil (hB.out.drewN _).inn).mono ?_
                  · have := HL.out; omega
                  rintro e w4 ⟨A4, c4, rfl, hv4, hb4, hn4, hk4, hi4⟩
                  have hb4' : Below wr.heap.size wr w4 := (below_drewN (Below.refl _ _) _).trans hb4
                  have hk4' : ∀ X, X < wr.heap.size → Avoid A' X → Avoid A4 X := hk4
                  obtain ⟨g, hg⟩ : ∃ g, g = Tx.vx d (n : Int) t' (s.data.toList.drop a') := ⟨_, rfl⟩
                  have HGO2 := HGO.out
                  have HLE2 := HLESS.out
                  rw [← hg] at hv4 HGO2 HLE2 ⊢
                  obtain ⟨a4, haa⟩ : ∃ a4, a4 = s.size - g.l.length := ⟨_, rfl⟩
                  rw [← haa]
                  have B4 := hB.out.far (hb4'.mono hB.out.size) ((hB.out.row.below hb4').more hb4'.size)
                  have y0 := B4.c0
                  have y1 := B4.c1
                  have y2 := B4.c2
                  have hfz := B4.f
                  obtain ⟨e0, e1, e2⟩ := And.intro (hfz 0 (by omega)) (And.intro (hfz 1 (by omega)) (hfz 2 (by omega)))
                  have B5 := Lib.hid (((B4.set0 (n' := g.t.length) hv4 ⟨hk4' _ (by have := hB.out.size; omega) hB.out.av.1, hk4' _ (by have := hB.out.size; omega) hB.out.av.2⟩ hn4 (fun X hX h => hk4' X (by have := hB.out.size; omega) (hB.out.keep X hX h)) hi4).set1 a4 rfl).set2 g.is)
                  obtain ⟨j0, hj0⟩ := Tx.vx_drop d (n : Int) t' (s.data.toList.drop a')
                  rw [← hg, List.drop_drop] at hj0
                  have hda : s.data.toList.drop a4 = g.l := by
                    rw [haa, hj0, HSL.out]
                    exact Tx.drop_left _ _
                  have hgr := Tx.vx_grow d (n : Int) t' (s.data.toList.drop a')
                  rw [← hg, hnn.out, List.length_drop, ← HSL.out] at hgr
                  rw [List.length_drop, ← HSL.out] at HLE2
                  have hga : g.t.length ≤ a4 := by omega
                  have hal : a4 ≤ s.size := by omega
                  have hup : a' < a4 := by omega
                  have HM := Lib.hid (show Tx.vx (d + 1) p t (s.data.toList.drop k) = Tx.shut (Tx.more (Tx.vx d (n : Int)) (Tx.lt (l + 1)) (s.data.toList.drop a4).length ⟨g.t, s.data.toList.drop a4, g.is⟩) by
                    rw [hM.out, HGO2, hda])
                  have HAT := Lib.hid hB.out.at_
                  clear hg haa hv4 hb4 hn4 hk4 hi4 B4 hfz hj0 hda hgr HLE2 HGO2 hb4' hk4' HGO HLESS x0 x1 x2 f0 f1 f2 r0 r1 r2 k0 k1 k2
                  go_wp2_with fail
                  go_roundw
                  case rel => exact ⟨A4, g.t.length, c4, a4, g.t, g.is, B5, hal, hga, Lib.hid rfl, HM⟩
                  case measure =>
                    rw [B5.out.at_, HAT.out]
                    omega
                · have hbb3 : ((b3.toNat : Int) == ((Tx.lt (l + 1)).toNat : Int)) = false := by rw [byte_eq, beq_eq_false_iff_ne]; exact hbl3
                  have HST := Lib.hid (show Tx.vx (d + 1) p t (s.data.toList.drop k) = Tx.shut ⟨t', s.data.toList.drop a', true⟩ by
                    rw [hM.out, Tx.more_stop (by rintro ⟨_, h⟩; rw [HD3.out] at h; injection h with h; exact hbl3 h)])
                  by_cases h41 : b3 = 41
                  · have hb41 : ((b3.toNat : Int) != 41) = false := (byte_ne b3 41).trans (by rw [h41]; rfl)
                    have HG := Lib.hid (show Tx.vx (d + 1) p t (s.data.toList.drop k) = ⟨t', s.data.toList.drop (a' + 1), true⟩ by rw [HST.out, HD3.out, h41]; rfl)
                    clear h41
                    go_wp2_with fail
                    go_quiet (fail)
                    go_wp2_with fail
                    refine bodyPost_ret (v := .agg #[.slice A' n' c', .int .i64 ((a' + 1 : Nat) : Int), .bool true]) ?_ rfl ?_
                    · simp [results, Try.results20, go_sem, k0, k1, k2]
                    · exact (((hB.out.drewN _).set1 (a' + 1) (by omega))).told (by rw [HG.out]) (by omega) hnn.out _ _ _
                  · have hb41 : ((b3.toNat : Int) != 41) = true := (byte_ne b3 41).trans (bne_iff_ne.2 h41)
                    have HG := Lib.hid (show Tx.vx (d + 1) p t (s.data.toList.drop k) = ⟨t', s.data.toList.drop a', false⟩ by
                      rw [HST.out, Tx.shut, if_pos rfl, if_neg]; rw [HD3.out]; intro h; injection h with h; exact h41 h)
                    go_wp2_with fail
                    go_quiet (fail)
                    go_wp2_with fail
                    refine bodyPost_ret (v := .agg #[.slice A' n' c', .int .i64 a', .bool false]) ?_ rfl ?_
                    · simp [results, Try.results20, go_sem, k0, k1, k2]
                    · exact (((hB.out.drewN _).set2 false)).told (by rw [HG.out]) (by omega) hnn.out _ _ _
              · have g4 : decide (a' < s.size) = false := by simp; omega
                have g5 : decide (s.size ≤ a') = true := by simp; omega
                have HG := Lib.hid (show Tx.vx (d + 1) p t (s.data.toList.drop k) = ⟨t', s.data.toList.drop a', false⟩ by
                  rw [hM.out, head_none (by omega), Tx.more_stop (by rintro ⟨_, h⟩; cases h)]; rfl)
                go_wp2_with fail
                go_quiet (fail)
                go_wp2_with fail
                refine bodyPost_ret (v := .agg #[.slice A' n' c', .int .i64 a', .bool false]) ?_ rfl ?_
                · simp [results, Try.results20, go_sem, k0, k1, k2]
                · exact (((hB.out.drewN _).set2 false)).told (by rw [HG.out]) (by omega) hnn.out _ _ _
        · have HG := Lib.hid (show Tx.vx (d + 1) p t (s.data.toList.drop k) = ⟨t ++ [(p, (l : Int))], s.data.toList.drop (k + 1), false⟩ by
            rw [Tx.vx, if_pos (by rw [HD.out, HL.out]; rfl), if_neg (by rw [HD.out, List.tail_cons, HD2.out]; intro e; injection e with e; exact h40 e), HD.out, List.tail_cons, ← HL.out])
          have hb40 : ((b2.toNat : Int) != 40) = true := (byte_ne b2 40).trans (bne_iff_ne.2 h40)
          go_enter Try.func20, Try.ntmps20
          go_wp2_with fail
          go_quiet (fail)
          have B1 := HBX.out nq 49 (.slice none 0 0) (.int .i64 0) (.bool false)
          have HB1 := Lib.hid B1
          have hown0 := own_empty (((w.alloc (.cells #[.slice A n c, .int .i64 k, .bool true] 49)).alloc (.cells #[.slice none 0 0, .int .i64 0, .bool false] 49)).drewN nq) (w.heap.size + 2) 42 B1.size
          have hro := (B1.row.below (below1 _ (.cells #[] 42)))
          clear B1
          go_wp2_with (at_builtin; refine wpList_append_vx rfl (.tmp 29) (.tmp 31) rfl (w.heap.size + 2) (.slice (some ⟨w.heap.size + 1 + 1, 0, none⟩) 0 0) 0 (vcells []) rfl ?o1 (w.heap.size + 2) A n c t rfl ?o2 hn.out HNIL.out (by omega) (by omega) ?o3 ?_)
          case o1 => simpa using hown0
          case o2 => simpa using hro
          case o3 => simp
          intro v1 w1 hown1 hg1
          rw [vcells_nil, List.nil_append] at hown1
          clear hown0 hro
          go_wp2_with (at_builtin; refine wpList_append_vx rfl (.tmp 32) (.tmp 36) rfl (w.heap.size + 2) v1 n (vcells t) rfl (hown1.alloc _) (w1.heap.size + 1) (some ⟨w1.heap.size, 0, none⟩) 1 1 [(p, (l : Int))] rfl (row_two _ _ _) rfl (by intro e; cases e) (by omega) (by omega) ?o4 ?_)
          case o4 => have := hg1.size; simp at this; simp; omega
          intro v2 w2 hown2 hg2
          rw [← vcells_append] at hown2
          have hbb := grown_two (w := w) HB1.out.size hown1 (by simpa using hg1) hg2
          obtain ⟨A2, c2, rfl, B2, ⟨q0, q1, q2⟩, qf, qr⟩ := HB1.out.grown hbb hown2
          have HB2 := Lib.hid B2
          obtain ⟨f0, f1, f2⟩ := And.intro (qf 0 (by omega)) (And.intro (qf 1 (by omega)) (qf 2 (by omega)))
          obtain ⟨r0, u0, k0⟩ := qr 0 (by omega)
          obtain ⟨r1, u1, k1⟩ := qr 1 (by omega)
          obtain ⟨r2, u2, k2⟩ := qr 2 (by omega)
          clear B2 qf qr hown1 hg1 hg2 hbb hown2 HB1
          go_wp2_with fail
          refine bodyPost_ret (v := .agg #[.slice A2 (n + 1) c2, .int .i64 ((k + 1 : Nat) : Int), .bool false]) ?_ rfl ?_
          · simp [results, Try.results20, go_sem, k0, k1, k2]
          · exact ((HB2.out.set1 (k + 1) rfl).set2 false).told (by rw [HG.out]) (by omega) (by rw [List.length_append, hn.out]; rfl) _ _ _
      · have HG := Lib.hid (show Tx.vx (d + 1) p t (s.data.toList.drop k) = ⟨t ++ [(p, (l : Int))], s.data.toList.drop (k + 1), false⟩ by
          rw [Tx.vx, if_pos (by rw [HD.out, HL.out]; rfl), if_neg (by rw [HD.out, List.tail_cons, head_none (by omega)]; intro e; cases e), HD.out, List.tail_cons, ← HL.out])
        have g2 : decide (s.size ≤ k + 1) = true := by simp; omega
        have g3 : decide ((s.size : Int) ≤ (k : Int) + 1) = true := by simp; omega
        go_enter Try.func20, Try.ntmps20
        go_wp2_with fail
        go_quiet (fail)
        have B1 := HBX.out nq 49 (.slice none 0 0) (.int .i64 0) (.bool false)
        have HB1 := Lib.hid B1
        have hown0 := own_empty (((w.alloc (.cells #[.slice A n c, .int .i64 k, .bool true] 49)).alloc (.cells #[.slice none 0 0, .int .i64 0, .bool false] 49)).drewN nq) (w.heap.size + 2) 42 B1.size
        have hro := (B1.row.below (below1 _ (.cells #[] 42)))
        clear B1
        go_wp2_with (at_builtin; refine wpList_append_vx rfl (.tmp 29) (.tmp 31) rfl (w.heap.size + 2) (.slice (some ⟨w.heap.size + 1 + 1, 0, none⟩) 0 0) 0 (vcells []) rfl ?o1 (w.heap.size + 2) A n c t rfl ?o2 hn.out HNIL.out (by omega) (by omega) ?o3 ?_)
        case o1 => simpa using hown0
        case o2 => simpa using hro
        case o3 => simp
        intro v1 w1 hown1 hg1
        rw [vcells_nil, List.nil_append] at hown1
        clear hown0 hro
        go_wp2_with (at_builtin; refine wpList_append_vx rfl (.tmp 32) (.tmp 36) rfl (w.heap.size + 2) v1 n (vcells t) rfl (hown1.alloc _) (w1.heap.size + 1) (some ⟨w1.heap.size, 0, none⟩) 1 1 [(p, (l : Int))] rfl (row_two _ _ _) rfl (by intro e; cases e) (by omega) (by omega) ?o4 ?_)
        case o4 => have := hg1.size; simp at this; simp; omega
        intro v2 w2 hown2 hg2
        rw [← vcells_append] at hown2
        have hbb := grown_two (w := w) HB1.out.size hown1 (by simpa using hg1) hg2
        obtain ⟨A2, c2, rfl, B2, ⟨q0, q1, q2⟩, qf, qr⟩ := HB1.out.grown hbb hown2
        have HB2 := Lib.hid B2
        obtain ⟨f0, f1, f2⟩ := And.intro (qf 0 (by omega)) (And.intro (qf 1 (by omega)) (qf 2 (by omega)))
        obtain ⟨r0, u0, k0⟩ := qr 0 (by omega)
        obtain ⟨r1, u1, k1⟩ := qr 1 (by omega)
        obtain ⟨r2, u2, k2⟩ := qr 2 (by omega)
        clear B2 qf qr hown1 hg1 hg2 hbb hown2 HB1
        go_wp2_with fail
        refine bodyPost_ret (v := .agg #[.slice A2 (n + 1) c2, .int .i64 ((k + 1 : Nat) : Int), .bool false]) ?_ rfl ?_
        · simp [results, Try.results20, go_sem, k0, k1, k2]
        · exact ((HB2.out.set1 (k + 1) rfl).set2 false).told (by rw [HG.out]) (by omega) (by rw [List.length_append, hn.out]; rfl) _ _ _
    · have HG := Lib.hid (show Tx.vx (d + 1) p t (s.data.toList.drop k) = ⟨t, s.data.toList.drop k, false⟩ by rw [Tx.vx, if_neg]; rw [HD.out, ← HL.out]; intro e; injection e with e; exact hbl e)
      have hbb : ((b.toNat : Int) != ((Tx.lt l).toNat : Int)) = true := by rw [byte_ne, bne_iff_ne]; exact hbl
      go_enter Try.func20, Try.ntmps20
      go_wp2_with fail
      go_quiet (fail)
      have HB1 := Lib.hid (HBX.out nq 49 (.slice none 0 0) (.int .i64 0) (.bool false))
      go_wp2_with fail
      refine bodyPost_ret (v := .agg #[.slice A n c, .int .i64 k, .bool false]) (by simp [results, Try.results20, go_sem]) rfl ?_
      exact (HB1.out.set2 false).told (by rw [HG.out]) hk hn.out _ _ _
  · have HG := Lib.hid (show Tx.vx (d + 1) p t (s.data.toList.drop k) = ⟨t, s.data.toList.drop k, false⟩ by rw [Tx.vx, if_neg]; rw [head_none (by omega)]; intro e; cases e)
    have g1 : decide (s.size ≤ k) = true := by simp; omega
    go_enter Try.func20, Try.ntmps20
    go_wp2_with fail
    go_quiet (fail)
    have HB1 := Lib.hid (HBX.out nq 49 (.slice none 0 0) (.int .i64 0) (.bool false))
    go_wp2_with fail
    refine bodyPost_ret (v := .agg #[.slice A n c, .int .i64 k, .bool false]) (by simp [results, Try.results20, go_sem]) rfl ?_
    exact (HB1.out.set2 false).told (by rw [HG.out]) hk hn.out _ _ _
end Go.Proofs.Ytdhcnmcfgicbjaa

