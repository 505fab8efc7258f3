/- swap and least, by their contracts. -/
import Derived.Test.YtgknbjiocgcmdaaHOr
namespace Go.Proofs.Ytgknbjiocgcmdaa
open Go.RowKit
set_option linter.unusedVariables false
variable {R : Nat → Value → Prop}

/-- Three cells of one block, written. -/
def put3 (w : World) (g o : Nat) (x : Hp.Tm) : World := ((w.setCell ⟨g, o, none⟩ (.int .i64 x.1)).setCell ⟨g, o + 1, none⟩ (.int .i64 x.2.1)).setCell ⟨g, o + 2, none⟩ (.int .i64 x.2.2)
set_option maxHeartbeats 2000000 in
theorem swap_raw (b g n c i j : Nat) (x1 x2 x3 y1 y2 y3 : Int) (w : World) (hb : w.cell? ⟨b, 0, none⟩ = some (.slice (some ⟨g, 0, none⟩) n c)) (hc : c ≤ 9223372036854775807) (hn : n ≤ c)
    (hi : (i : Int) < (n : Int)) (hj : (j : Int) < (n : Int)) (hij : i ≠ j)
    (p0 : w.cell? ⟨g, i * 3, none⟩ = some (.int .i64 x1)) (p1 : w.cell? ⟨g, i * 3 + 1, none⟩ = some (.int .i64 x2)) (p2 : w.cell? ⟨g, i * 3 + 2, none⟩ = some (.int .i64 x3))
    (q0 : w.cell? ⟨g, j * 3, none⟩ = some (.int .i64 y1)) (q1 : w.cell? ⟨g, j * 3 + 1, none⟩ = some (.int .i64 y2)) (q2 : w.cell? ⟨g, j * 3 + 2, none⟩ = some (.int .i64 y3))
    (f0 : w.frozen? ⟨g, i * 3, none⟩ = false) (f1 : w.frozen? ⟨g, i * 3 + 1, none⟩ = false) (f2 : w.frozen? ⟨g, i * 3 + 2, none⟩ = false)
    (k0 : w.frozen? ⟨g, j * 3, none⟩ = false) (k1 : w.frozen? ⟨g, j * 3 + 1, none⟩ = false) (k2 : w.frozen? ⟨g, j * 3 + 2, none⟩ = false) :
    Calls Try.prog 39 #[.pointer (some ⟨b, 0, none⟩), .int .i64 i, .int .i64 j] w fun e w' => e = .returned (.tuple #[]) ∧ ∃ q, w' = (put3 (put3 w g (i * 3) (y1, y2, y3)) g (j * 3) (x1, x2, x3)).drewN q := by
  go_enter Try.func39, Try.ntmps39
  go_wp2_with fail
  go_region
  go_wp2_with fail
  go_end0
  exact ⟨rfl, 1, rfl⟩
theorem kept_put3 (F : Nat → Prop) {w0 w : World} (h : Kept F w0 w) (g o : Nat) (x : Hp.Tm) (hg : F g) : Kept F w0 (put3 w g o x) := ((h.setCell ⟨g, o, none⟩ hg _).setCell ⟨g, o + 1, none⟩ hg _).setCell ⟨g, o + 2, none⟩ hg _
theorem HM.put {w : World} {b g c : Nat} {F : Nat → Prop} {l : List Hp.Tm} (h : HM R w b F l) (hb : w.cell? ⟨b, 0, none⟩ = some (.slice (some ⟨g, 0, none⟩) l.length c)) (i : Nat) (hi : i < l.length) (x : Hp.Tm) : HM R (put3 w g (i * 3) x) b F (l.set i x) := by
  obtain ⟨A, c', h1, h2, h3⟩ := h.mem
  rw [hb] at h1
  injection h1 with h1
  injection h1 with e1 e2 e3
  subst e1 e3
  obtain ⟨n1, n2⟩ := h3 _ rfl
  have hl : (l.set i x).length = l.length := List.length_set
  have far : ∀ (w : World) o u, (w.setCell ⟨g, o, none⟩ u).cell? ⟨b, 0, none⟩ = w.cell? ⟨b, 0, none⟩ := fun w o u => World.cell?_setCell_other _ _ _ _ (fun e => by injection e with e; exact n1 e)
  refine ⟨⟨some ⟨g, 0, none⟩, c, ?_, ?_, h3⟩, ?_, h.inb, fun j hj => ?_, Rest.row (Rest.row (Rest.row h.rest n1) n1) n1⟩
  · rw [hl]
    unfold put3
    rw [far, far, far]
    exact hb
  · rw [hl]
    exact own_put h2 i hi x
  · unfold put3
    rw [World.frozen?_setCell, World.frozen?_setCell, World.frozen?_setCell]
    exact h.free
  · have := h.lt j hj
    simpa [put3, World.setCell] using this
theorem HM.put_cell {w : World} {b g c : Nat} {l : List Hp.Tm} (i : Nat) (x : Hp.Tm) (hb : w.cell? ⟨b, 0, none⟩ = some (.slice (some ⟨g, 0, none⟩) l.length c)) (hne : g ≠ b) : (put3 w g (i * 3) x).cell? ⟨b, 0, none⟩ = some (.slice (some ⟨g, 0, none⟩) l.length c) := by
  have far : ∀ (w : World) o u, (w.setCell ⟨g, o, none⟩ u).cell? ⟨b, 0, none⟩ = w.cell? ⟨b, 0, none⟩ := fun w o u => World.cell?_setCell_other _ _ _ _ (fun e => by injection e with e; exact hne e)
  unfold put3
  rw [far, far, far]
  exact hb
theorem HM.drewN {w : World} {b : Nat} {F : Nat → Prop} {l : List Hp.Tm} (h : HM R w b F l) (q : Nat) : HM R (w.drewN q) b F l := h.keep (Nat.le_refl _) (fun _ _ => rfl)
theorem swap_any (b : Nat) (F : Nat → Prop) (l : List Hp.Tm) (i j : Nat) (w : World) (h : HM R w b F l) (hi : i < l.length) (hj : j < l.length) (hij : i ≠ j) :
    Calls Try.prog 39 #[.pointer (some ⟨b, 0, none⟩), .int .i64 i, .int .i64 j] w fun e w' => e = .returned (.tuple #[]) ∧ HM R w' b F (Hp.swap l i j) ∧ Kept F w w' := by
  obtain ⟨g, c, h1, h2, h3, h4, h5, h6, h7⟩ := h.cells (by omega)
  obtain ⟨x, hx⟩ : ∃ x, l[i]? = some x := ⟨_, List.getElem?_eq_getElem hi⟩
  obtain ⟨y, hy⟩ : ∃ y, l[j]? = some y := ⟨_, List.getElem?_eq_getElem hj⟩
  obtain ⟨p0, p1, p2⟩ := h7 i x hx
  obtain ⟨q0, q1, q2⟩ := h7 j y hy
  refine (swap_raw b g l.length c i j _ _ _ _ _ _ w h1 h5 h4 (by omega) (by omega) hij p0 p1 p2 q0 q1 q2 (own_free h6 _) (own_free h6 _) (own_free h6 _) (own_free h6 _) (own_free h6 _) (own_free h6 _)).mono ?_
  rintro e w' ⟨rfl, q, rfl⟩
  rw [Hp.swap_of hx hy]
  have k1 := h.put h1 i hi y
  have k2 := HM.put_cell (l := l) i y h1 h2
  have hl : (l.set i y).length = l.length := List.length_set
  rw [← hl] at k2
  have k3 := k1.put k2 j (by rw [hl]; exact hj) x
  exact ⟨rfl, k3.drewN q, (kept_put3 F (kept_put3 F (Kept.refl F w) g _ _ h3) g _ _ h3).drewN q⟩
end Go.Proofs.Ytgknbjiocgcmdaa

