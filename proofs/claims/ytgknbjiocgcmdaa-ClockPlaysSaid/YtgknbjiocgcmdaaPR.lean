/- Rows of pairs with their capacity. -/
import Derived.Test.YtgknbjiocgcmdaaRApp
import Derived.Test.YtgknbjiocgcmdaaVx
namespace Go.Proofs.Ytgknbjiocgcmdaa
open Go.RowKit
set_option linter.unusedVariables false

/-- A slice of pairs, with its capacity. -/
structure PR (w : World) (A : Option Addr) (n c : Nat) (vs : List (Int × Int)) : Prop where
  len : vs.length = n
  cap : n ≤ c
  most : c ≤ 9223372036854775807
  nil : A = none → c = 0
  row : VRow w w.heap.size A vs
theorem PR.below {w w' : World} {A : Option Addr} {n c : Nat} {vs : List (Int × Int)} (h : PR w A n c vs) (hb : Below w.heap.size w w') : PR w' A n c vs :=
  ⟨h.len, h.cap, h.most, h.nil, (h.row.below hb).more hb.size⟩
theorem PR.nothing (w : World) : PR w none 0 0 [] := ⟨rfl, Nat.le_refl _, by omega, fun _ => rfl, fun i z h => by simp at h⟩
theorem PR.of_own {w : World} {base n : Nat} {e : TypeId} {v : Value} {vs : List (Int × Int)} (h : w.ownsRow base e 2 v n (vcells vs)) : ∃ A c, v = .slice A n c ∧ PR w A n c vs := by
  have hl := own_vlen h
  rcases h.2 with ⟨rfl, rfl⟩ | ⟨g, cap, cur, rfl, _, _, h1, h2, _⟩
  · exact ⟨_, _, rfl, hl, Nat.le_refl _, by omega, (fun _ => rfl), VRow.of_own h⟩
  · exact ⟨_, _, rfl, hl, h1, by unfold maxLen at h2; omega, (fun e => by cases e), VRow.of_own h⟩
theorem PR.of_own' {w : World} {base n : Nat} {e : TypeId} {v : Value} {vs : List (Int × Int)} (h : w.ownsRow base e 2 v n (vcells vs)) : ∃ A c, v = .slice A n c ∧ PR w A n c vs ∧ From base A := by
  obtain ⟨A, c, rfl, hr⟩ := PR.of_own h
  refine ⟨A, c, rfl, hr, fun ad e => ?_⟩
  subst e
  exact (h.lt _ rfl).1
theorem pr_of_two (w : World) (g n : Int) (T : TypeId) : PR (w.alloc (.cells #[.int .i64 g, .int .i64 n] T)) (some ⟨w.heap.size, 0, none⟩) 1 1 [(g, n)] := by
  have ho : (w.alloc (.cells #[.int .i64 g, .int .i64 n] T)).ownsRow w.heap.size T 2 (.slice (some ⟨w.heap.size, 0, none⟩) 1 1) 1 (vcells [(g, n)]) :=
    ⟨rfl, .inr ⟨w.heap.size, 1, _, rfl, Nat.le_refl _, heap_alloc_new w _, Nat.le_refl _, by unfold maxLen; omega, rfl, rfl⟩⟩
  obtain ⟨A, c, e, hr⟩ := PR.of_own ho
  injection e with e1 e2 e3
  subst e1 e3
  exact hr
/-- The address and the cells of a row that has a member. -/
theorem PR.cells {w : World} {A : Option Addr} {n c : Nat} {vs : List (Int × Int)} (h : PR w A n c vs) (hn : 0 < n) : ∃ b off, A = some ⟨b, off, none⟩ ∧ b < w.heap.size ∧ ∀ j z, vs[j]? = some z → w.cell? ⟨b, off + j * 2, none⟩ = some (.int .i64 z.1) ∧ w.cell? ⟨b, off + j * 2 + 1, none⟩ = some (.int .i64 z.2) := by
  obtain ⟨z0, h0⟩ : ∃ z, vs[0]? = some z := ⟨_, List.getElem?_eq_getElem (by rw [h.len]; exact hn)⟩
  obtain ⟨b, off, rfl, hb, _⟩ := h.row 0 z0 h0
  refine ⟨b, off, rfl, hb, fun j z hj => ?_⟩
  obtain ⟨b', off', e, _, hc⟩ := h.row j z hj
  injection e with e
  injection e with e1 e2
  subst e1 e2
  exact hc
theorem PR.drop {w : World} {b off n c : Nat} {vs : List (Int × Int)} (h : PR w (some ⟨b, off, none⟩) n c vs) (k : Nat) (hk : k ≤ n) : PR w (some ⟨b, off + k * 2, none⟩) (n - k) (c - k) (vs.drop k) := by
  refine ⟨by rw [List.length_drop, h.len], by have := h.cap; omega, by have := h.most; omega, fun e => (by cases e), fun i z hi => ?_⟩
  rw [List.getElem?_drop] at hi
  obtain ⟨b', off', e, hb, h1, h2⟩ := h.row _ _ hi
  injection e with e
  injection e with e1 e2
  subst e1 e2
  rw [Nat.add_mul, ← Nat.add_assoc] at h1 h2
  exact ⟨_, _, rfl, hb, h1, h2⟩
theorem PR.slice {w : World} {b off n c : Nat} {vs : List (Int × Int)} (h : PR w (some ⟨b, off, Option.none⟩) n c vs) (k : Nat) (hk : k ≤ n) : PR w (if c = k then some ⟨b, off, Option.none⟩ else some ⟨b, off + k * 2, Option.none⟩) (n - k) (c - k) (vs.drop k) := by
  by_cases e : c = k
  · rw [if_pos e]
    have h1 := h.cap
    have h2 : n - k = 0 := by omega
    have h3 : c - k = 0 := by omega
    rw [h2, h3, List.drop_of_length_le (by rw [h.len]; omega)]
    exact ⟨rfl, Nat.le_refl _, by omega, fun _ => rfl, fun i z hi => by simp at hi⟩
  · rw [if_neg e]
    exact h.drop k hk
theorem PR.drew {w : World} {A : Option Addr} {n c : Nat} {vs : List (Int × Int)} (h : PR w A n c vs) : PR w.drew A n c vs := ⟨h.len, h.cap, h.most, h.nil, h.row⟩
theorem PR.step {W W' : World} {A : Option Addr} {n c : Nat} {vs : List (Int × Int)} (h : PR W A n c vs) (hb : Below W.heap.size W W') : PR W' A n c vs := h.below hb
theorem PR.far {W : World} {X j n c : Nat} {A : Option Addr} {vs : List (Int × Int)} {u : Value} (h : PR W A n c vs) (ha : ∀ ad, A = some ad → ad.block ≠ X) : PR (W.setCell ⟨X, j, Option.none⟩ u) A n c vs := by
  refine ⟨h.len, h.cap, h.most, h.nil, fun i z hi => ?_⟩
  obtain ⟨b, off, e, hb, h1, h2⟩ := h.row i z hi
  have hne := ha _ e
  simp only at hne
  exact ⟨b, off, e, by simpa [World.setCell] using hb, (World.cell?_setCell_other _ _ _ _ (fun e => by injection e with e; omega)).trans h1, (World.cell?_setCell_other _ _ _ _ (fun e => by injection e with e; omega)).trans h2⟩
theorem PR.grown {w w' : World} {A : Option Addr} {n c : Nat} {vs : List (Int × Int)} {row : Option Nat} (h : PR w A n c vs) (hg : w.grownBy w' row) (hne : ∀ ad, A = some ad → some ad.block ≠ row) : PR w' A n c vs := by
  refine ⟨h.len, h.cap, h.most, h.nil, fun i z hi => ?_⟩
  obtain ⟨b, off, e, hb, h1, h2⟩ := h.row i z hi
  have := hne _ e
  exact ⟨b, off, e, Nat.lt_of_lt_of_le hb hg.size, (hg.cell h1 this), (hg.cell h2 this)⟩
theorem Row.farj {W : World} {X j n c : Nat} {A : Option Addr} {zs : List Int} {u : Value} (h : Row W A n c zs) (ha : ∀ ad, A = some ad → ad.block ≠ X) : Row (W.setCell ⟨X, j, Option.none⟩ u) A n c zs := by
  refine ⟨h.len, h.cap, h.most, h.nil, fun i z hi => ?_⟩
  obtain ⟨b, off, e, hb, hc⟩ := h.row i z hi
  have hne := ha _ e
  simp only at hne
  exact ⟨b, off, e, by simpa [World.setCell] using hb, (World.cell?_setCell_other _ _ _ _ (fun e => by injection e with e; omega)).trans hc⟩
end Go.Proofs.Ytgknbjiocgcmdaa

