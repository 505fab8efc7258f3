/- A heap and a timer's box that a law keeps for itself. -/
import Derived.Test.YtjcljdehhckaeaaHShown
import Derived.Test.YtjcljdehhckaeaaHSum
namespace Go.Proofs.Ytjcljdehhckaeaa
open Go.RowKit
set_option linter.unusedVariables false

/-- A heap, and a box of a timer beside it. -/
structure St (w0 w : World) (b : Nat) (F : Nat → Prop) (L : Nat) (l : List Hp.Tm) (x : Hp.Tm) : Prop where
  hm : HM w b F l
  hF : ∀ k, F k → w0.heap.size ≤ k
  hL : ¬ F L
  hh : Hp.Heap l
  c0 : w.cell? ⟨L, 0, none⟩ = some (.int .i64 x.1)
  c1 : w.cell? ⟨L, 1, none⟩ = some (.int .i64 x.2.1)
  c2 : w.cell? ⟨L, 2, none⟩ = some (.int .i64 x.2.2)
  f0 : w.frozen? ⟨L, 0, none⟩ = false
  f1 : w.frozen? ⟨L, 1, none⟩ = false
  f2 : w.frozen? ⟨L, 2, none⟩ = false
  below : Below w0.heap.size w0 w
  ge : w0.heap.size ≤ L
theorem St.step {w0 w w' : World} {b L : Nat} {F : Nat → Prop} {l : List Hp.Tm} {x : Hp.Tm} (h : St w0 w b F L l x) (hb : Below w.heap.size w w') : St w0 w' b F L l x :=
  ⟨h.hm.step hb, h.hF, h.hL, h.hh, keepcell hb h.c0, keepcell hb h.c1, keepcell hb h.c2, keepfree hb h.c0 h.f0, keepfree hb h.c1 h.f1, keepfree hb h.c2 h.f2, h.below.trans (hb.mono h.below.size), h.ge⟩
theorem One.box {w0 w : World} {b : Nat} {l : List Hp.Tm} (h : One w0 w b l) (x : Hp.Tm) (T : TypeId) : ∃ F, St w0 (w.alloc (.cells #[.int .i64 x.1, .int .i64 x.2.1, .int .i64 x.2.2] T)) b F w.heap.size l x := by
  obtain ⟨F, hm, hF⟩ := h.mem
  obtain ⟨W, e, c0, c1, c2, f, hb⟩ := new3v w (.int .i64 x.1) (.int .i64 x.2.1) (.int .i64 x.2.2) T
  subst e
  exact ⟨F, hm.step hb, hF, fun k => by have := hm.lt _ k; omega, h.heap, c0, c1, c2, f 0, f 1, f 2, h.below.trans (hb.mono h.below.size), h.below.size⟩
theorem st_pop {w0 w : World} {b L : Nat} {F : Nat → Prop} {l : List Hp.Tm} {x y : Hp.Tm} (h : St w0 w b F L l y) (hx : l[0]? = some x) (hl : l.length ≤ 1000000) :
    Calls Try.prog 12 #[.pointer (some ⟨b, 0, none⟩)] w fun e w' => e = .returned (.tuple #[tv x, .bool true]) ∧ ∃ l', (x :: l').Perm l ∧ St w0 w' b F L l' y := by
  refine (pop_any b F l x w h.hm (Lib.hid h.hh) hx hl).mono ?_
  rintro e w' ⟨rfl, l', hp, hh, hm', hk⟩
  exact ⟨rfl, l', hp, hm', h.hF, h.hL, hh, hk.cell h.c0 h.hL, hk.cell h.c1 h.hL, hk.cell h.c2 h.hL, hk.free h.c0 h.hL h.f0, hk.free h.c1 h.hL h.f1, hk.free h.c2 h.hL h.f2, hk.below h.below h.hF h.below.size, h.ge⟩
theorem st_empty {w0 w : World} {b L : Nat} {F : Nat → Prop} {y : Hp.Tm} (h : St w0 w b F L [] y) :
    Calls Try.prog 12 #[.pointer (some ⟨b, 0, none⟩)] w fun e w' => e = .returned (told []) ∧ St w0 w' b F L [] y := by
  refine (pop_empty b F w h.hm).mono ?_
  rintro e w' ⟨rfl, hb⟩
  exact ⟨rfl, h.step hb⟩
/-- Another timer in the box. -/
theorem St.put {w0 w : World} {b L : Nat} {F : Nat → Prop} {l : List Hp.Tm} {y : Hp.Tm} (h : St w0 w b F L l y) (x : Hp.Tm) : St w0 (((w.setCell ⟨L, 0, none⟩ (.int .i64 x.1)).setCell ⟨L, 1, none⟩ (.int .i64 x.2.1)).setCell ⟨L, 2, none⟩ (.int .i64 x.2.2)) b F L l x := by
  obtain ⟨k0, k1, k2⟩ := told3 (u := .int .i64 x.1) (v := .int .i64 x.2.1) (z := .int .i64 x.2.2) h.c0 h.c1 h.c2
  exact ⟨((h.hm.setFar ⟨L, 0, none⟩ h.hL _).setFar ⟨L, 1, none⟩ h.hL _).setFar ⟨L, 2, none⟩ h.hL _, h.hF, h.hL, h.hh, k0, k1, k2, by rw [World.frozen?_setCell, World.frozen?_setCell, World.frozen?_setCell]; exact h.f0, by rw [World.frozen?_setCell, World.frozen?_setCell, World.frozen?_setCell]; exact h.f1, by rw [World.frozen?_setCell, World.frozen?_setCell, World.frozen?_setCell]; exact h.f2, below_put3 (o := 0) _ _ _ h.below h.ge, h.ge⟩
theorem put_far {w : World} {L X o : Nat} {u v z y : Value} (h : w.cell? ⟨X, o, none⟩ = some y) (hne : X ≠ L) : (((w.setCell ⟨L, 0, none⟩ u).setCell ⟨L, 1, none⟩ v).setCell ⟨L, 2, none⟩ z).cell? ⟨X, o, none⟩ = some y := by
  have oth : ∀ (W : World) o' u, (W.setCell ⟨L, o', none⟩ u).cell? ⟨X, o, none⟩ = W.cell? ⟨X, o, none⟩ := fun W o' u => World.cell?_setCell_other _ _ _ _ (fun e => by injection e with e; exact hne e.symm)
  rw [oth, oth, oth]
  exact h
theorem round_wrap (a : Int) : Hp.Round (wrap64 a) a := ⟨-((a + 9223372036854775808) / 18446744073709551616), by unfold wrap64; omega⟩
theorem wrap_in (a : Int) : -9223372036854775808 ≤ wrap64 a ∧ wrap64 a ≤ 9223372036854775807 := by unfold wrap64; omega
/-- What a sum is when a timer's numbers have been added, each step going round. -/
theorem sum_more (s x1 x2 x3 t : Int) (h : Hp.Round s t) : Hp.Round (wrap64 (wrap64 (wrap64 (s + x1) + wrap64 (3 * x2)) + wrap64 (7 * x3))) (t + Hp.val (x1, x2, x3)) := by
  have r1 := (round_wrap (s + x1)).trans (h.add (Hp.Round.refl x1))
  have r2 := (round_wrap (wrap64 (s + x1) + wrap64 (3 * x2))).trans (r1.add (round_wrap (3 * x2)))
  have r3 := (round_wrap (wrap64 (wrap64 (s + x1) + wrap64 (3 * x2)) + wrap64 (7 * x3))).trans (r2.add (round_wrap (7 * x3)))
  have e : t + Hp.val (x1, x2, x3) = t + x1 + 3 * x2 + 7 * x3 := by unfold Hp.val; simp only; omega
  rw [e]
  exact r3
theorem sum_less (s x1 x2 x3 t : Int) (h : Hp.Round s t) : Hp.Round (wrap64 (wrap64 (wrap64 (s - x1) - wrap64 (3 * x2)) - wrap64 (7 * x3))) (t - Hp.val (x1, x2, x3)) := by
  have r1 := (round_wrap (s - x1)).trans (h.sub (Hp.Round.refl x1))
  have r2 := (round_wrap (wrap64 (s - x1) - wrap64 (3 * x2))).trans (r1.sub (round_wrap (3 * x2)))
  have r3 := (round_wrap (wrap64 (wrap64 (s - x1) - wrap64 (3 * x2)) - wrap64 (7 * x3))).trans (r2.sub (round_wrap (7 * x3)))
  have e : t - Hp.val (x1, x2, x3) = t - x1 - 3 * x2 - 7 * x3 := by unfold Hp.val; simp only; omega
  rw [e]
  exact r3
theorem compare_val (x y : Hp.Tm) (r : Int) (hr : r = Hp.cmp x y) (W : World) : Calls Try.prog 19 #[.agg #[.int .i64 x.1, .int .i64 x.2.1, .int .i64 x.2.2], .agg #[.int .i64 y.1, .int .i64 y.2.1, .int .i64 y.2.2]] W fun e w' => e = .returned (.int .i64 r) ∧ Below W.heap.size W w' := by
  subst hr
  refine (compare_any x y W).mono ?_
  rintro e w' ⟨rfl, hb⟩
  exact ⟨rfl, hb.below⟩
end Go.Proofs.Ytjcljdehhckaeaa

