/- A mailbox in memory: its four cells, its three rows; box.apart, by its contract. -/
import Derived.Test.YtjpnfjiccckaiaaOCut
namespace Go.Proofs.Ytjpnfjiccckaiaa
open Go.RowKit
open Mp (Bo)
set_option linter.unusedVariables false

theorem held_trans {W9 W w' : World} (h : Below W9.heap.size W9 W) (hb : Below W.heap.size W w') : Below W9.heap.size W9 w' := h.trans (hb.mono h.size)
theorem below_then {W w' : World} (hb : Below W.heap.size W w') (o : Obj) : Below W.heap.size W (w'.alloc o) := hb.trans ((below_new w' o).mono hb.size)
/-- The three rows of a mailbox. -/
structure Tri (W : World) (A1 : Option Addr) (n1 c1 : Nat) (A2 : Option Addr) (n2 c2 : Nat) (A3 : Option Addr) (n3 c3 : Nat) (b : Bo) : Prop where
  m : Row W A1 n1 c1 b.msgs
  s : PR W A2 n2 c2 b.send
  r : Row W A3 n3 c3 b.recv
theorem Tri.step {W W' : World} {A1 A2 A3 : Option Addr} {n1 c1 n2 c2 n3 c3 : Nat} {b : Bo} (h : Tri W A1 n1 c1 A2 n2 c2 A3 n3 c3 b) (hb : Below W.heap.size W W') : Tri W' A1 n1 c1 A2 n2 c2 A3 n3 c3 b := ⟨h.m.below hb, h.s.below hb, h.r.below hb⟩
theorem Tri.drew {W : World} {A1 A2 A3 : Option Addr} {n1 c1 n2 c2 n3 c3 : Nat} {b : Bo} (h : Tri W A1 n1 c1 A2 n2 c2 A3 n3 c3 b) : Tri W.drew A1 n1 c1 A2 n2 c2 A3 n3 c3 b := ⟨h.m.drew, h.s.drew, h.r.drew⟩
theorem Tri.alloc {W : World} {A1 A2 A3 : Option Addr} {n1 c1 n2 c2 n3 c3 : Nat} {b : Bo} (h : Tri W A1 n1 c1 A2 n2 c2 A3 n3 c3 b) (o : Obj) : Tri (W.alloc o) A1 n1 c1 A2 n2 c2 A3 n3 c3 b := h.step (below_new W o)
theorem Tri.set {W : World} {A1 A2 A3 : Option Addr} {n1 c1 n2 c2 n3 c3 X j : Nat} {b : Bo} {u : Value} (h : Tri W A1 n1 c1 A2 n2 c2 A3 n3 c3 b) (f1 : From (X + 1) A1) (f2 : From (X + 1) A2) (f3 : From (X + 1) A3) : Tri (W.setCell ⟨X, j, none⟩ u) A1 n1 c1 A2 n2 c2 A3 n3 c3 b :=
  ⟨h.m.farj fun ad e => by have := f1 ad e; omega, h.s.far fun ad e => by have := f2 ad e; omega, h.r.farj fun ad e => by have := f3 ad e; omega⟩
/-- All four cells of a block are written, and the rows lie elsewhere. -/
theorem Tri.put {W : World} {A1 A2 A3 : Option Addr} {n1 c1 n2 c2 n3 c3 X : Nat} {b : Bo} {x y z u : Value} (h : Tri W A1 n1 c1 A2 n2 c2 A3 n3 c3 b) (f1 : From (X + 1) A1) (f2 : From (X + 1) A2) (f3 : From (X + 1) A3) : Tri ((((W.setCell ⟨X, 0, none⟩ x).setCell ⟨X, 1, none⟩ y).setCell ⟨X, 2, none⟩ z).setCell ⟨X, 3, none⟩ u) A1 n1 c1 A2 n2 c2 A3 n3 c3 b :=
  (((h.set f1 f2 f3).set f1 f2 f3).set f1 f2 f3).set f1 f2 f3
theorem own_base {w : World} {b1 b2 n size : Nat} {e : TypeId} {v : Value} {xs : List Value} (h : w.ownsRow b1 e size v n xs) (hb : b2 ≤ b1) : w.ownsRow b2 e size v n xs := by
  refine ⟨h.1, ?_⟩
  rcases h.2 with h0 | ⟨g, cap, cur, e1, hg, h3⟩
  · exact .inl h0
  · exact .inr ⟨g, cap, cur, e1, Nat.le_trans hb hg, h3⟩
/-- The three rows of a mailbox, each of the call's own. -/
structure Own3 (W : World) (base : Nat) (v1 v2 v3 : Value) (n1 n2 n3 : Nat) (b : Bo) : Prop where
  m : W.ownsRow base 2 1 v1 n1 (b.msgs.map (Value.int .i64))
  s : W.ownsRow base 52 2 v2 n2 (vcells b.send)
  r : W.ownsRow base 3 1 v3 n3 (b.recv.map (Value.int .i64))
theorem Own3.step {W W' : World} {base : Nat} {v1 v2 v3 : Value} {n1 n2 n3 : Nat} {b : Bo} (h : Own3 W base v1 v2 v3 n1 n2 n3 b) (hb : Below W.heap.size W W') : Own3 W' base v1 v2 v3 n1 n2 n3 b := ⟨own_below h.m hb, own_below h.s hb, own_below h.r hb⟩
theorem Own3.set {W : World} {base : Nat} {v1 v2 v3 : Value} {n1 n2 n3 X j : Nat} {b : Bo} {u : Value} (h : Own3 W base v1 v2 v3 n1 n2 n3 b) (hX : X < base) : Own3 (W.setCell ⟨X, j, none⟩ u) base v1 v2 v3 n1 n2 n3 b := ⟨ownsRow_setCell_below h.m hX u, ownsRow_setCell_below h.s hX u, ownsRow_setCell_below h.r hX u⟩
theorem Own3.put {W : World} {base : Nat} {v1 v2 v3 : Value} {n1 n2 n3 X : Nat} {b : Bo} {x y z u : Value} (h : Own3 W base v1 v2 v3 n1 n2 n3 b) (hX : X < base) : Own3 ((((W.setCell ⟨X, 0, none⟩ x).setCell ⟨X, 1, none⟩ y).setCell ⟨X, 2, none⟩ z).setCell ⟨X, 3, none⟩ u) base v1 v2 v3 n1 n2 n3 b := (((h.set hX).set hX).set hX).set hX
theorem Own3.drew {W : World} {base : Nat} {v1 v2 v3 : Value} {n1 n2 n3 : Nat} {b : Bo} (h : Own3 W base v1 v2 v3 n1 n2 n3 b) : Own3 W.drew base v1 v2 v3 n1 n2 n3 b := ⟨h.m, h.s, h.r⟩
theorem Own3.mono {W : World} {base base' : Nat} {v1 v2 v3 : Value} {n1 n2 n3 : Nat} {b : Bo} (h : Own3 W base v1 v2 v3 n1 n2 n3 b) (hb : base' ≤ base) : Own3 W base' v1 v2 v3 n1 n2 n3 b := by
  have mono1 : ∀ {e : TypeId} {size n : Nat} {v : Value} {xs : List Value}, W.ownsRow base e size v n xs → W.ownsRow base' e size v n xs := by
    intro e size n v xs h
    refine ⟨h.1, ?_⟩
    rcases h.2 with h0 | ⟨g, cap, cur, e1, hg, h3⟩
    · exact .inl h0
    · exact .inr ⟨g, cap, cur, e1, Nat.le_trans hb hg, h3⟩
  exact ⟨mono1 h.m, mono1 h.s, mono1 h.r⟩
theorem Own3.lens {W : World} {base : Nat} {v1 v2 v3 : Value} {n1 n2 n3 : Nat} {b : Bo} (h : Own3 W base v1 v2 v3 n1 n2 n3 b) : b.msgs.length = n1 ∧ b.send.length = n2 ∧ b.recv.length = n3 := ⟨own_len h.m, own_vlen h.s, own_len h.r⟩
/-- Read as rows. -/
theorem Own3.tri {W : World} {base : Nat} {v1 v2 v3 : Value} {n1 n2 n3 : Nat} {b : Bo} (h : Own3 W base v1 v2 v3 n1 n2 n3 b) :
    ∃ A1 c1 A2 c2 A3 c3, v1 = .slice A1 n1 c1 ∧ v2 = .slice A2 n2 c2 ∧ v3 = .slice A3 n3 c3 ∧ Tri W A1 n1 c1 A2 n2 c2 A3 n3 c3 b ∧ From base A1 ∧ From base A2 ∧ From base A3 := by
  obtain ⟨A1, c1, e1, h1, f1⟩ := Row.of_own' h.m
  obtain ⟨A2, c2, e2, h2, f2⟩ := PR.of_own' h.s
  obtain ⟨A3, c3, e3, h3, f3⟩ := Row.of_own' h.r
  exact ⟨A1, c1, A2, c2, A3, c3, e1, e2, e3, ⟨h1, h2, h3⟩, f1, f2, f3⟩
/-- The same, of slices that are known. -/
theorem Own3.read {W : World} {base : Nat} {a1 a2 a3 : Option Addr} {n1 n2 n3 d1 d2 d3 : Nat} {b : Bo} (h : Own3 W base (.slice a1 n1 d1) (.slice a2 n2 d2) (.slice a3 n3 d3) n1 n2 n3 b) : Tri W a1 n1 d1 a2 n2 d2 a3 n3 d3 b ∧ From base a1 ∧ From base a2 ∧ From base a3 := by
  obtain ⟨A1, c1, A2, c2, A3, c3, e1, e2, e3, h4, f1, f2, f3⟩ := h.tri
  injection e1 with e1 _ e4
  injection e2 with e2 _ e5
  injection e3 with e3 _ e6
  subst e1 e2 e3 e4 e5 e6
  exact ⟨h4, f1, f2, f3⟩
theorem Own3.alloc {W : World} {base : Nat} {v1 v2 v3 : Value} {n1 n2 n3 : Nat} {b : Bo} (h : Own3 W base v1 v2 v3 n1 n2 n3 b) (o : Obj) : Own3 (W.alloc o) base v1 v2 v3 n1 n2 n3 b := h.step (below_new W o)
theorem own_apart {w : World} {b1 b2 s1 s2 n1 n2 : Nat} {e1 e2 : TypeId} {v1 v2 : Value} {x1 x2 : List Value} (h1 : w.ownsRow b1 e1 s1 v1 n1 x1) (h2 : w.ownsRow b2 e2 s2 v2 n2 x2) (hne : e1 ≠ e2) : v1.ownBlock = none ∨ v1.ownBlock ≠ v2.ownBlock := by
  rcases h1.2 with ⟨rfl, _⟩ | ⟨g1, c1, cur1, rfl, _, k1, _⟩
  · exact .inl rfl
  · rcases h2.2 with ⟨rfl, _⟩ | ⟨g2, c2, cur2, rfl, _, k2, _⟩
    · exact .inr (by simp [Value.ownBlock])
    · refine .inr ?_
      intro h
      have e : g1 = g2 := by simpa [Value.ownBlock] using h
      subst e
      rw [k1] at k2
      injection k2 with k2
      injection k2 with _ k2
      exact hne k2
/-- One row is appended to; the others stand. -/
theorem Own3.msg {W W' : World} {base : Nat} {v1 v2 v3 v1' : Value} {n1 n2 n3 n1' : Nat} {b : Bo} {l : List Int} (h : Own3 W base v1 v2 v3 n1 n2 n3 b) (ho : W'.ownsRow base 2 1 v1' n1' (l.map (Value.int .i64))) (hg : W.grownBy W' v1.ownBlock) : Own3 W' base v1' v2 v3 n1' n2 n3 ⟨b.room, l, b.send, b.recv⟩ :=
  ⟨ho, h.s.kept hg (own_apart h.s h.m (by decide)), h.r.kept hg (own_apart h.r h.m (by decide))⟩
theorem Own3.snd {W W' : World} {base : Nat} {v1 v2 v3 v2' : Value} {n1 n2 n3 n2' : Nat} {b : Bo} {l : List (Int × Int)} (h : Own3 W base v1 v2 v3 n1 n2 n3 b) (ho : W'.ownsRow base 52 2 v2' n2' (vcells l)) (hg : W.grownBy W' v2.ownBlock) : Own3 W' base v1 v2' v3 n1 n2' n3 ⟨b.room, b.msgs, l, b.recv⟩ :=
  ⟨h.m.kept hg (own_apart h.m h.s (by decide)), ho, h.r.kept hg (own_apart h.r h.s (by decide))⟩
theorem Own3.rcv {W W' : World} {base : Nat} {v1 v2 v3 v3' : Value} {n1 n2 n3 n3' : Nat} {b : Bo} {l : List Int} (h : Own3 W base v1 v2 v3 n1 n2 n3 b) (ho : W'.ownsRow base 3 1 v3' n3' (l.map (Value.int .i64))) (hg : W.grownBy W' v3.ownBlock) : Own3 W' base v1 v2 v3' n1 n2 n3' ⟨b.room, b.msgs, b.send, l⟩ :=
  ⟨h.m.kept hg (own_apart h.m h.r (by decide)), h.s.kept hg (own_apart h.s h.r (by decide)), ho⟩
/-- A mailbox that is told, from block base on; all that was there is as it was. -/
def TellB (w0 : World) (base : Nat) (b : Bo) (bv : Value) (w' : World) : Prop :=
  ∃ A1 n1 c1 A2 n2 c2 A3 n3 c3, bv = .agg #[.int .i64 b.room, .slice A1 n1 c1, .slice A2 n2 c2, .slice A3 n3 c3] ∧ Tri w' A1 n1 c1 A2 n2 c2 A3 n3 c3 b ∧ From base A1 ∧ From base A2 ∧ From base A3 ∧ Below w0.heap.size w0 w'
/-- The box of an argument of four cells, and behind it the place of a result of four. -/
structure A4 (w W : World) (x y z u x' y' z' u' : Value) : Prop where
  p : Q4 W w.heap.size x y z u
  r : Q4 W (w.heap.size + 1) x' y' z' u'
  below : Below w.heap.size w W
  size : w.heap.size + 2 ≤ W.heap.size
theorem A4.start (w : World) (x y z u x' y' z' u' : Value) (T U : TypeId) : ∃ W, W = (w.alloc (.cells #[x, y, z, u] T)).alloc (.cells #[x', y', z', u'] U) ∧ A4 w W x y z u x' y' z' u' := by
  refine ⟨_, rfl, (Q4.new w x y z u T).alloc _, ?_, ((Below.refl _ _).alloc (Nat.le_refl _) _).alloc (by simp) _, by simp⟩
  have h := Q4.new (w.alloc (.cells #[x, y, z, u] T)) x' y' z' u' U
  simpa using h
theorem A4.step {w W W' : World} {x y z u x' y' z' u' : Value} (h : A4 w W x y z u x' y' z' u') (hb : Below W.heap.size W W') : A4 w W' x y z u x' y' z' u' :=
  ⟨h.p.step hb, h.r.step hb, h.below.trans (hb.mono h.below.size), Nat.le_trans h.size hb.size⟩
theorem A4.drew {w W : World} {x y z u x' y' z' u' : Value} (h : A4 w W x y z u x' y' z' u') : A4 w W.drew x y z u x' y' z' u' := ⟨h.p.drew, h.r.drew, h.below.drew, h.size⟩
/-- The argument's box is written. -/
theorem A4.putp {w W : World} {x y z u x' y' z' u' : Value} (h : A4 w W x y z u x' y' z' u') (a b c d : Value) : A4 w ((((W.setCell ⟨w.heap.size, 0, none⟩ a).setCell ⟨w.heap.size, 1, none⟩ b).setCell ⟨w.heap.size, 2, none⟩ c).setCell ⟨w.heap.size, 3, none⟩ d) a b c d x' y' z' u' :=
  ⟨h.p.put a b c d, (((h.r.far (by omega)).far (by omega)).far (by omega)).far (by omega), put4_below h.below (Nat.le_refl _), by simpa [World.setCell] using h.size⟩
theorem A4.setp1 {w W : World} {x y z u x' y' z' u' : Value} (h : A4 w W x y z u x' y' z' u') (v : Value) : A4 w (W.setCell ⟨w.heap.size, 1, none⟩ v) x v z u x' y' z' u' :=
  ⟨h.p.set1 v, h.r.far (by omega), h.below.setCell (Nat.le_refl _) _, by simpa [World.setCell] using h.size⟩
theorem A4.setp2 {w W : World} {x y z u x' y' z' u' : Value} (h : A4 w W x y z u x' y' z' u') (v : Value) : A4 w (W.setCell ⟨w.heap.size, 2, none⟩ v) x y v u x' y' z' u' :=
  ⟨h.p.set2 v, h.r.far (by omega), h.below.setCell (Nat.le_refl _) _, by simpa [World.setCell] using h.size⟩
theorem A4.setp3 {w W : World} {x y z u x' y' z' u' : Value} (h : A4 w W x y z u x' y' z' u') (v : Value) : A4 w (W.setCell ⟨w.heap.size, 3, none⟩ v) x y z v x' y' z' u' :=
  ⟨h.p.set3 v, h.r.far (by omega), h.below.setCell (Nat.le_refl _) _, by simpa [World.setCell] using h.size⟩
theorem A4.grown {w W W' : World} {x y z u x' y' z' u' : Value} {row : Option Nat} (h : A4 w W x y z u x' y' z' u') (hg : W.grownBy W' row) (hr : ∀ k, row = some k → w.heap.size + 2 ≤ k) : A4 w W' x y z u x' y' z' u' :=
  ⟨h.p.grown hg (fun k e => by have := hr k e; omega), h.r.grown hg (fun k e => by have := hr k e; omega), h.below.grown hg (by have := h.size; omega) (fun k e => by have := hr k e; omega), Nat.le_trans h.size hg.size⟩
theorem Q4.all {W : World} {b : Nat} {x y z u : Value} (h : Q4 W b x y z u) : W.cell? ⟨b, 0, none⟩ = some x ∧ W.cell? ⟨b, 1, none⟩ = some y ∧ W.cell? ⟨b, 2, none⟩ = some z ∧ W.cell? ⟨b, 3, none⟩ = some u := ⟨h.c0, h.c1, h.c2, h.c3⟩
/-- Another block's four cells are written. -/
theorem Q4.off {W : World} {b b' : Nat} {x y z u : Value} (h : Q4 W b x y z u) (hne : b ≠ b') (p q r s : Value) : Q4 ((((W.setCell ⟨b', 0, none⟩ p).setCell ⟨b', 1, none⟩ q).setCell ⟨b', 2, none⟩ r).setCell ⟨b', 3, none⟩ s) b x y z u := (((h.far hne).far hne).far hne).far hne
/-- The result is laid in its place, and told. -/
theorem A4.told {w W : World} {x y z u x' y' z' u' : Value} {b : Bo} {A1 A2 A3 : Option Addr} {n1 c1 n2 c2 n3 c3 : Nat} {rm : Int} (h : A4 w W x y z u x' y' z' u') (t : Tri W A1 n1 c1 A2 n2 c2 A3 n3 c3 b) (f1 : From (w.heap.size + 2) A1) (f2 : From (w.heap.size + 2) A2) (f3 : From (w.heap.size + 2) A3) (hr : rm = b.room) :
    TellB w w.heap.size b (.agg #[.int .i64 rm, .slice A1 n1 c1, .slice A2 n2 c2, .slice A3 n3 c3]) ((((W.setCell ⟨w.heap.size + 1, 0, none⟩ (.int .i64 rm)).setCell ⟨w.heap.size + 1, 1, none⟩ (.slice A1 n1 c1)).setCell ⟨w.heap.size + 1, 2, none⟩ (.slice A2 n2 c2)).setCell ⟨w.heap.size + 1, 3, none⟩ (.slice A3 n3 c3)) := by
  subst hr
  exact ⟨A1, n1, c1, A2, n2, c2, A3, n3, c3, rfl, t.put f1 f2 f3, f1.mono (by omega), f2.mono (by omega), f3.mono (by omega), put4_below h.below (by omega)⟩
/-- What box.apart leaves. -/
def MadeB (w0 : World) (b : Bo) (e : Ending) (w' : World) : Prop :=
  ∃ v1 v2 v3 n1 n2 n3, e = .returned (.agg #[.int .i64 b.room, v1, v2, v3]) ∧ Own3 w' w0.heap.size v1 v2 v3 n1 n2 n3 b ∧ Below w0.heap.size w0 w'
set_option maxHeartbeats 1600000 in
theorem apart_any (b : Bo) (A B C : Option Addr) (n1 n2 n3 c1 c2 c3 : Nat) (w : World) (h : Tri w A n1 c1 B n2 c2 C n3 c3 b) (h1 : n1 ≤ 100000) (h2 : n2 ≤ 100000) (h3 : n3 ≤ 100000) :
    Calls Try.prog 24 #[.agg #[.int .i64 b.room, .slice A n1 c1, .slice B n2 c2, .slice C n3 c3]] w (MadeB w b) := by
  obtain ⟨room, msgs, send, recv⟩ := b
  obtain ⟨W0, hW0, hX0⟩ := A4.start w (.int .i64 room) (.slice A n1 c1) (.slice B n2 c2) (.slice C n3 c3) (.int .i64 0) (.slice none 0 0) (.slice none 0 0) (.slice none 0 0) 31 31
  have p0 := hX0.p.c0
  have p1 := hX0.p.c1
  have p2 := hX0.p.c2
  have p3 := hX0.p.c3
  have X0 := Lib.hid hX0
  have H := Lib.hid (h.step hX0.below)
  have E0 := Lib.hid hW0
  clear hX0 hW0 h
  go_enter Try.func24, Try.ntmps24
  go_wp2_with fail
  rw [← E0.out]
  clear E0
  have bz : Below W0.heap.size W0 W0.drew := (Below.refl _ _).drew
  go_region_held3 (fun w' => w'.cell? ⟨w.heap.size, 0, none⟩ = some (.int .i64 room) ∧ w'.cell? ⟨w.heap.size, 1, none⟩ = some (.slice A n1 c1) ∧ w'.cell? ⟨w.heap.size, 2, none⟩ = some (.slice B n2 c2) ∧ w'.cell? ⟨w.heap.size, 3, none⟩ = some (.slice C n3 c3))
    (first | (go_split_ands; refine ⟨keepcell hbX (by assumption), keepcell hbX (by assumption), keepcell hbX (by assumption), keepcell hbX (by assumption)⟩) | (exact ⟨p0, p1, p2, p3⟩) | (exact (X3.p.off (by omega) _ _ _ _).all))
    (first
      | (go_at_call 32; refine (row_i64 A n1 c1 msgs _ (by exact H.out.m.below bz) (by omega)).mono ?_; rintro e w1 ⟨v1, rfl, ho1, hbX⟩; obtain ⟨a1, d1, rfl⟩ := own_form ho1; have b1 := held_trans bz hbX)
      | (go_at_call 33; refine (row_mail B n2 c2 send _ (by exact H.out.s.below b1) (by omega)).mono ?_; rintro e w2 ⟨v2, rfl, ho2, hbX⟩; obtain ⟨a2, d2, rfl⟩ := own_form ho2; have b2 := held_trans b1 hbX; have ho1' := own_below ho1 hbX)
      | (go_at_call 29; refine (row_int C n3 c3 recv _ (by exact H.out.r.below b2) (by omega)).mono ?_; rintro e w3 ⟨v3, rfl, ho3, hbX⟩; obtain ⟨a3, d3, rfl⟩ := own_form ho3; have b3 := held_trans b2 hbX; have ho1'' := own_below ho1' hbX; have ho2' := own_below ho2 hbX; have X3 := X0.out.step b3; have e0 := X3.r.c0; have e1 := X3.r.c1; have e2 := X3.r.c2; have e3 := X3.r.c3; have e4 := X3.r.f0; have e5 := X3.r.f1; have e6 := X3.r.f2; have e7 := X3.r.f3))
  have HM := Lib.hid (show MadeB w ⟨room, msgs, send, recv⟩ _ _ from ⟨_, _, _, _, _, _, rfl, (Own3.put (X := w.heap.size + 1) (x := .int .i64 room) (y := .slice a1 n1 d1) (z := .slice a2 n2 d2) (u := .slice a3 n3 d3) (show Own3 w3 W0.heap.size _ _ _ _ _ _ ⟨room, msgs, send, recv⟩ from ⟨ho1'', own_base (w := w3) ho2' (by have := b1.size; omega), own_base ho3 (by have := b2.size; omega)⟩) (by have := X0.out.size; omega)).mono (by have := X0.out.size; omega), put4_below X3.below (by omega)⟩)
  have K := X3.r.put (.int .i64 room) (.slice a1 n1 d1) (.slice a2 n2 d2) (.slice a3 n3 d3)
  have k0 := K.c0
  have k1 := K.c1
  have k2 := K.c2
  have k3 := K.c3
  clear K X3 e0 e1 e2 e3 e4 e5 e6 e7 ho1'' ho2' ho3 ho1 ho2 ho1' b1 b2 b3 bz p0 p1 p2 p3 hbX
  go_wp2_with fail
  refine bodyPost_ret (v := .agg #[.int .i64 room, .slice a1 n1 d1, .slice a2 n2 d2, .slice a3 n3 d3]) ?_ rfl ?_
  · simp [results, Try.results24, go_sem, k0, k1, k2, k3]
  exact HM.out
end Go.Proofs.Ytjpnfjiccckaiaa

