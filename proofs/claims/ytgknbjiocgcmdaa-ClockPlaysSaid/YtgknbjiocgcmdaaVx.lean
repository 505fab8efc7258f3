/- Slices of vertices that a call makes for itself: their cells, and how they read. -/
import Derived.Test.YtgknbjiocgcmdaaBase
import Derived.Maps.AppendAt
namespace Go.Proofs.Ytgknbjiocgcmdaa
open Go.RowKit
set_option linter.unusedVariables false

def vcells (vs : List (Int × Int)) : List Value := vs.flatMap fun x => [.int .i64 x.1, .int .i64 x.2]
theorem vcells_nil : vcells [] = [] := rfl
theorem vcells_one (p l : Int) : vcells [(p, l)] = [.int .i64 p, .int .i64 l] := rfl
theorem vcells_append (a b : List (Int × Int)) : vcells (a ++ b) = vcells a ++ vcells b := by unfold vcells; rw [List.flatMap_append]
theorem vcells_length (vs : List (Int × Int)) : (vcells vs).length = vs.length * 2 := by
  induction vs with
  | nil => rfl
  | cons x xs ih =>
    have : vcells (x :: xs) = .int .i64 x.1 :: .int .i64 x.2 :: vcells xs := rfl
    rw [this, List.length_cons, List.length_cons, ih, List.length_cons]; omega
theorem vcells_at : ∀ (vs : List (Int × Int)) (i : Nat), (vcells vs)[i * 2]? = (vs[i]?).map (fun x => Value.int .i64 x.1) ∧ (vcells vs)[i * 2 + 1]? = (vs[i]?).map (fun x => Value.int .i64 x.2) := by
  intro vs
  induction vs with
  | nil => intro i; simp [vcells]
  | cons x xs ih =>
    intro i
    have e : vcells (x :: xs) = .int .i64 x.1 :: .int .i64 x.2 :: vcells xs := rfl
    rw [e]
    cases i with
    | zero => exact ⟨rfl, rfl⟩
    | succ i =>
      obtain ⟨h1, h2⟩ := ih i
      rw [show (i + 1) * 2 = i * 2 + 1 + 1 from by omega]
      simp only [List.getElem?_cons_succ]
      exact ⟨h1, h2⟩
theorem vcells_one' (vs : List (Int × Int)) : ∀ u ∈ vcells vs, u.oneCell' = true := by
  intro u hu
  unfold vcells at hu
  obtain ⟨x, _, hx⟩ := List.mem_flatMap.1 hu
  simp only [List.mem_cons, List.not_mem_nil, or_false] at hx
  rcases hx with rfl | rfl <;> rfl
theorem add_at (b o j : Nat) : ((⟨b, o, none⟩ : Addr).add j) = ⟨b, o + j, none⟩ := by
  unfold Addr.add; split <;> simp_all
/-- The cells of a slice that came in, one by one. -/
theorem VRow.cells {w : World} {B b off : Nat} {vs : List (Int × Int)} (h : VRow w B (some ⟨b, off, none⟩) vs) : ∀ j u, (vcells vs)[j]? = some u → w.cell? ((⟨b, off, none⟩ : Addr).add j) = some u := by
  intro j u hj
  have hl := (List.getElem?_eq_some_iff.1 hj).1
  rw [vcells_length] at hl
  obtain ⟨x, hx⟩ : ∃ x, vs[j / 2]? = some x := ⟨_, List.getElem?_eq_getElem (by omega)⟩
  obtain ⟨b', off', hA, _, h1, h2⟩ := h _ _ hx
  injection hA with hA
  injection hA with e1 e2
  subst e1 e2
  obtain ⟨g1, g2⟩ := vcells_at vs (j / 2)
  rw [add_at]
  rcases Nat.mod_two_eq_zero_or_one j with e | e
  · rw [show j / 2 * 2 = j from by omega, hx] at g1
    rw [hj] at g1
    rw [show j / 2 * 2 = j from by omega] at h1
    rw [h1, g1]; rfl
  · rw [show j / 2 * 2 + 1 = j from by omega, hx] at g2
    rw [hj] at g2
    rw [show off + j / 2 * 2 + 1 = off + j from by omega] at h2
    rw [h2, g2]; rfl
/-- A row of vertices that a call has made for itself, read as vertices. -/
theorem VRow.of_own {w : World} {base n c : Nat} {e : TypeId} {A : Option Addr} {vs : List (Int × Int)} (h : w.ownsRow base e 2 (.slice A n c) n (vcells vs)) : VRow w w.heap.size A vs := by
  intro i x hi
  have hl : i < n := by
    have h1 := h.1
    have h2 := (List.getElem?_eq_some_iff.1 hi).1
    rw [vcells_length] at h1; omega
  rcases h.2 with ⟨_, h0⟩ | ⟨g, cap, cur, hv, _, hh, _⟩
  · omega
  · injection hv with h1 h2 h3
    subst h1
    obtain ⟨g1, g2⟩ := vcells_at vs i
    rw [hi] at g1 g2
    have c1 := h.cells (g := g) rfl _ _ g1
    have c2 := h.cells (g := g) rfl _ _ g2
    rw [add_at] at c1 c2
    exact ⟨g, 0, rfl, (Array.getElem?_eq_some_iff.1 hh).1, c1, by rw [show 0 + i * 2 + 1 = 0 + (i * 2 + 1) from by omega]; exact c2⟩
theorem own_vlen {w : World} {base n : Nat} {e : TypeId} {v : Value} {vs : List (Int × Int)} (h : w.ownsRow base e 2 v n (vcells vs)) : vs.length = n := by
  have h1 := h.1
  rw [vcells_length] at h1; omega
theorem own_empty (w : World) (base : Nat) (e : TypeId) (h : base ≤ w.heap.size) : (w.alloc (.cells #[] e)).ownsRow base e 2 (.slice (some ⟨w.heap.size, 0, none⟩) 0 0) 0 (vcells []) :=
  World.ownsRow_made _ _ _ h (by unfold maxLen; omega) rfl
theorem two_cells (w : World) (p l : Int) (e : TypeId) : ∀ j x, (vcells [(p, l)])[j]? = some x → (w.alloc (.cells #[.int .i64 p, .int .i64 l] e)).cell? ((⟨w.heap.size, 0, none⟩ : Addr).add j) = some x := by
  intro j x hj
  rw [vcells_one] at hj
  match j, hj with
  | 0, hj => simp at hj; subst hj; simp [Addr.add]
  | 1, hj => simp at hj; subst hj; simp [Addr.add]
theorem vcells_set : ∀ (vs : List (Int × Int)) (i : Nat) (p : Int) (x : Int × Int), vs[i]? = some x → (vcells vs).set (i * 2) (.int .i64 p) = vcells (vs.set i (p, x.2)) := by
  intro vs
  induction vs with
  | nil => intro i p x h; cases h
  | cons y ys ih =>
    intro i p x h
    have e : vcells (y :: ys) = .int .i64 y.1 :: .int .i64 y.2 :: vcells ys := rfl
    cases i with
    | zero => injection h with h; subst h; rfl
    | succ i =>
      rw [e, show (i + 1) * 2 = i * 2 + 1 + 1 from by omega, List.set_cons_succ, List.set_cons_succ, ih i p x h]; rfl
theorem news_kept {W W' : World} {row g : Nat} {zs : List Value} (hg : W.grownBy W' (some row)) (hne : g ≠ row) (hlt : g < W.heap.size) (h : ∀ j u, zs[j]? = some u → W.cell? ((⟨g, 0, none⟩ : Addr).add j) = some u) :
    ∀ j u, zs[j]? = some u → W'.cell? ((⟨g, 0, none⟩ : Addr).add j) = some u := by
  intro j u hj
  have h1 := h j u hj
  rw [add_at] at h1 ⊢
  exact (World.cell?_of_block (hg.block g hlt (by simpa using hne))).trans h1
theorem news_kept_drew {W W' : World} {row g : Nat} {zs : List Value} {v : Value} (hg : W.drew.grownBy W' v.ownBlock) (hv : v.ownBlock = some row) (hne : g ≠ row) (hlt : g < W.heap.size) (h : ∀ j u, zs[j]? = some u → W.cell? ((⟨g, 0, none⟩ : Addr).add j) = some u) :
    ∀ j u, zs[j]? = some u → W'.cell? ((⟨g, 0, none⟩ : Addr).add j) = some u := by
  rw [hv] at hg
  exact news_kept (W := W.drew) hg hne hlt h
theorem Fit.append {a b : List (Int × Int)} (ha : Fit a) (hb : Fit b) : Fit (a ++ b) := by
  intro x hx
  rcases List.mem_append.1 hx with h | h
  · exact ha x h
  · exact hb x h
theorem Fit.drop {a : List (Int × Int)} (ha : Fit a) (k : Nat) : Fit (a.drop k) := fun x hx => ha x (List.mem_of_mem_drop hx)
theorem Fit.take {a : List (Int × Int)} (ha : Fit a) (k : Nat) : Fit (a.take k) := fun x hx => ha x (List.mem_of_mem_take hx)
theorem VRow.take {w : World} {B : Nat} {A : Option Addr} {vs : List (Int × Int)} (h : VRow w B A vs) (k : Nat) : VRow w B A (vs.take k) := by
  intro i x hi
  refine h i x ?_
  rw [List.getElem?_take] at hi
  split at hi
  · exact hi
  · cases hi
theorem VRow.drop1 {w : World} {B b off : Nat} {vs : List (Int × Int)} (h : VRow w B (some ⟨b, off, none⟩) vs) : VRow w B (some ⟨b, off + 2, none⟩) (vs.drop 1) := by
  intro i x hi
  rw [List.getElem?_drop] at hi
  obtain ⟨b', off', hA, hb, h1, h2⟩ := h _ _ hi
  injection hA with hA
  injection hA with e1 e2
  subst e1 e2
  exact ⟨b, off + 2, rfl, hb, by rw [show off + 2 + i * 2 = off + (1 + i) * 2 from by omega]; exact h1, by rw [show off + 2 + i * 2 + 1 = off + (1 + i) * 2 + 1 from by omega]; exact h2⟩
end Go.Proofs.Ytgknbjiocgcmdaa

