/- What holds while the document's Take makes its arena, whatever of it comes first. -/
import Derived.Test.YtncmliojndgoiaaVApp
namespace Go.Proofs.Ytncmliojndgoiaa
open Go.RowKit
set_option linter.unusedVariables false

/-- What has come up (b2 an empty list, b5 the living copied, b7 the new one, b8 both, b12 the free without it, b13 an empty list, b16 the generations copied, b17 the arena, b18 its place, b19 stored), and what holds of it. -/
structure TI (W0 w : World) (g r : Int) (n1 n3 : Nat) (l1 lw l3 : List Int) (b2 b5 b7 b8 b12 b13 b16 b17 b18 b19 : Bool) (v7 v15 v18 v20 v21 v25 v26 v29 v30 : Value) (x7 : Nat) : Prop where
  below : Below W0.heap.size W0 w
  c12 : b12 = true → b8 = true
  c16 : b16 = true → b12 = true
  c17 : b17 = true → b16 = true
  c19 : b19 = true → b17 = true ∧ b18 = true
  e15 : b2 = true → b5 = false → ∃ ad, v15 = .slice (some ad) 0 0
  e18 : b5 = true → b8 = false → ∃ foot, Fr w W0.heap.size foot v18 n1 l1
  e20 : b7 = true → b8 = false → ∃ y, v20 = .slice (some ⟨y, 0, none⟩) 1 1 ∧ w.cell? ⟨y, 0, none⟩ = some (.int .i64 g)
  e21 : b8 = true → ∃ foot, Fr w W0.heap.size foot v21 (n1 + 1) (l1 ++ [g])
  e25 : b12 = true → ∃ foot nw, Fr w W0.heap.size foot v25 nw lw
  e26 : b13 = true → b16 = false → ∃ ad, v26 = .slice (some ad) 0 0
  e29 : b16 = true → ∃ (foot : Option Nat) (B : Nat), W0.heap.size ≤ B ∧ Fr w B foot v29 n3 l3 ∧ (∃ f1, (∀ j, f1 = some j → j < B) ∧ Fr w W0.heap.size f1 v21 (n1 + 1) (l1 ++ [g])) ∧ (∃ f2 nw, (∀ j, f2 = some j → j < B) ∧ Fr w W0.heap.size f2 v25 nw lw)
  e30 : b17 = true → v30 = .agg #[.int .i64 r, v21, v25, v29]
  e7 : b18 = true → v7 = .pointer (some ⟨x7, 0, none⟩) ∧ W0.heap.size ≤ x7
  e7t : b18 = true → b19 = false → (∃ cs, w.heap[x7]? = some (.cells cs 29 (0, 0))) ∧ Cel8 w x7 (.int .i64 0) (.slice none 0 0) (.slice none 0 0) (.slice none 0 0)
  e19 : b19 = true → Cel8 w x7 (.int .i64 r) v21 v25 v29
  e19b : b19 = true → 0 < n3 → ∀ g c, v29 = .slice (some ⟨g, 0, none⟩) n3 c → g ≠ x7
section
variable {W0 w w' : World} {g r : Int} {n1 n3 : Nat} {l1 lw l3 : List Int} {b2 b5 b7 b8 b12 b13 b16 b17 b18 b19 : Bool} {v7 v15 v18 v20 v21 v25 v26 v29 v30 : Value} {x7 : Nat}
theorem cell_step {W W' : World} {p : Addr} {v : Value} (h : W.cell? p = some v) (hb : Below W.heap.size W W') : W'.cell? p = some v := keepcell hb h
theorem fr_apart {W : World} {base : Nat} {foot : Option Nat} {v : Value} {n x : Nat} {xs : List Int} {cs : Array Value} (h : Fr W base foot v n xs) (hx : W.heap[x]? = some (.cells cs 29 (0, 0))) : foot ≠ some x := by
  rintro rfl
  rcases h with ⟨ho, hf⟩ | ⟨_, _, _, _, hf⟩
  · rcases ho.2 with ⟨rfl, _⟩ | ⟨g, cap, cur, rfl, _, hg, _⟩
    · cases hf
    · injection hf with hf
      simp only at hf
      subst hf
      rw [hx] at hg
      injection hg with hg
      injection hg with _ hg
      exact absurd hg (by decide)
  · cases hf
theorem fr_ne {W : World} {base : Nat} {foot : Option Nat} {v : Value} {n x g c : Nat} {xs : List Int} {cs : Array Value} (h : Fr W base foot v n xs) (hx : W.heap[x]? = some (.cells cs 29 (0, 0))) (h0 : 0 < n) (e : v = .slice (some ⟨g, 0, none⟩) n c) : g ≠ x := by
  have ha := fr_apart h hx
  rcases h with ⟨ho, hf⟩ | ⟨_, _, h1, _⟩
  · intro eg
    subst e eg
    exact ha hf
  · omega
theorem TI.step (h : TI W0 w g r n1 n3 l1 lw l3 b2 b5 b7 b8 b12 b13 b16 b17 b18 b19 v7 v15 v18 v20 v21 v25 v26 v29 v30 x7) (hb : Below w.heap.size w w') : TI W0 w' g r n1 n3 l1 lw l3 b2 b5 b7 b8 b12 b13 b16 b17 b18 b19 v7 v15 v18 v20 v21 v25 v26 v29 v30 x7 :=
  ⟨(h.below.trans (hb.mono h.below.size)), h.c12, h.c16, h.c17, h.c19, h.e15, (fun p q => by obtain ⟨foot, hf⟩ := h.e18 p q; exact ⟨foot, hf.step hb⟩), (fun p q => by obtain ⟨y, e, hc⟩ := h.e20 p q; exact ⟨y, e, keepcell hb hc⟩), (fun p => by obtain ⟨foot, hf⟩ := h.e21 p; exact ⟨foot, hf.step hb⟩), (fun p => by obtain ⟨foot, nw, hf⟩ := h.e25 p; exact ⟨foot, nw, hf.step hb⟩), h.e26, (fun p => by obtain ⟨foot, B, hB, hf, ⟨f1, k1, h1⟩, f2, nw, k2, h2⟩ := h.e29 p; exact ⟨foot, B, hB, hf.step hb, ⟨f1, k1, h1.step hb⟩, f2, nw, k2, h2.step hb⟩), h.e30, h.e7, (fun p q => by obtain ⟨⟨cs, hc⟩, hl⟩ := h.e7t p q; exact ⟨⟨cs, (hb.block x7 hl.lt).trans hc⟩, hl.step hb⟩), (fun p => (h.e19 p).step hb), h.e19b⟩
theorem TI.s2 {u15 : Value} (h : TI W0 w g r n1 n3 l1 lw l3 false b5 b7 b8 b12 b13 b16 b17 b18 b19 v7 v15 v18 v20 v21 v25 v26 v29 v30 x7) (hu : ∃ ad, u15 = .slice (some ad) 0 0) : TI W0 w g r n1 n3 l1 lw l3 true b5 b7 b8 b12 b13 b16 b17 b18 b19 v7 u15 v18 v20 v21 v25 v26 v29 v30 x7 :=
  ⟨h.below, h.c12, h.c16, h.c17, h.c19, (fun _ _ => hu), h.e18, h.e20, h.e21, h.e25, h.e26, h.e29, h.e30, h.e7, h.e7t, h.e19, h.e19b⟩
theorem TI.s5 {u18 : Value} (h : TI W0 w g r n1 n3 l1 lw l3 b2 false b7 b8 b12 b13 b16 b17 b18 b19 v7 v15 v18 v20 v21 v25 v26 v29 v30 x7) (hu : ∃ foot, Fr w W0.heap.size foot u18 n1 l1) : TI W0 w g r n1 n3 l1 lw l3 b2 true b7 b8 b12 b13 b16 b17 b18 b19 v7 v15 u18 v20 v21 v25 v26 v29 v30 x7 :=
  ⟨h.below, h.c12, h.c16, h.c17, h.c19, (fun _ q => by cases q), (fun _ _ => hu), h.e20, h.e21, h.e25, h.e26, h.e29, h.e30, h.e7, h.e7t, h.e19, h.e19b⟩
theorem TI.s7 {u20 : Value} (h : TI W0 w g r n1 n3 l1 lw l3 b2 b5 false b8 b12 b13 b16 b17 b18 b19 v7 v15 v18 v20 v21 v25 v26 v29 v30 x7) (hu : ∃ y, u20 = .slice (some ⟨y, 0, none⟩) 1 1 ∧ w.cell? ⟨y, 0, none⟩ = some (.int .i64 g)) : TI W0 w g r n1 n3 l1 lw l3 b2 b5 true b8 b12 b13 b16 b17 b18 b19 v7 v15 v18 u20 v21 v25 v26 v29 v30 x7 :=
  ⟨h.below, h.c12, h.c16, h.c17, h.c19, h.e15, h.e18, (fun _ _ => hu), h.e21, h.e25, h.e26, h.e29, h.e30, h.e7, h.e7t, h.e19, h.e19b⟩
theorem TI.s8 {u21 : Value} {foot : Option Nat} (h : TI W0 w g r n1 n3 l1 lw l3 b2 b5 b7 false b12 b13 b16 b17 b18 b19 v7 v15 v18 v20 v21 v25 v26 v29 v30 x7) (h18 : Fr w W0.heap.size foot v18 n1 l1) (hg : w.grownBy w' foot) (hu : ∃ foot, Fr w' W0.heap.size foot u21 (n1 + 1) (l1 ++ [g])) : TI W0 w' g r n1 n3 l1 lw l3 b2 b5 b7 true b12 b13 b16 b17 b18 b19 v7 v15 v18 v20 u21 v25 v26 v29 v30 x7 := by
  have f12 : b12 ≠ true := fun e => by have := h.c12 e; cases this
  have f16 : b16 ≠ true := fun e => f12 (h.c16 e)
  have f17 : b17 ≠ true := fun e => f16 (h.c17 e)
  have f19 : b19 ≠ true := fun e => f17 (h.c19 e).1
  exact ⟨(h.below.grown hg h.below.size (fun k e => (h18.lt k e).1)), (fun _ => rfl), h.c16, h.c17, h.c19, h.e15, (fun _ q => by cases q), (fun _ q => by cases q), (fun _ => hu), (fun p => absurd p f12), h.e26, (fun p => absurd p f16), (fun p => absurd p f17), h.e7, (fun p q => by obtain ⟨⟨cs, hc⟩, hl⟩ := h.e7t p q; have hk := hg.block x7 hl.lt (fun e => fr_apart h18 hc e.symm); exact ⟨⟨cs, hk.trans hc⟩, hl.keep hk⟩), (fun p => absurd p f19), h.e19b⟩
theorem TI.s12 {u25 : Value} (h : TI W0 w g r n1 n3 l1 lw l3 b2 b5 b7 true false b13 b16 b17 b18 b19 v7 v15 v18 v20 v21 v25 v26 v29 v30 x7) (hu : ∃ foot nw, Fr w W0.heap.size foot u25 nw lw) : TI W0 w g r n1 n3 l1 lw l3 b2 b5 b7 true true b13 b16 b17 b18 b19 v7 v15 v18 v20 v21 u25 v26 v29 v30 x7 := by
  have f16 : b16 ≠ true := fun e => by have := h.c16 e; cases this
  have f17 : b17 ≠ true := fun e => f16 (h.c17 e)
  have f19 : b19 ≠ true := fun e => f17 (h.c19 e).1
  exact ⟨h.below, (fun _ => rfl), (fun _ => rfl), h.c17, h.c19, h.e15, h.e18, h.e20, h.e21, (fun _ => hu), h.e26, (fun p => absurd p f16), (fun p => absurd p f17), h.e7, h.e7t, (fun p => absurd p f19), h.e19b⟩
theorem TI.s13 {u26 : Value} (h : TI W0 w g r n1 n3 l1 lw l3 b2 b5 b7 b8 b12 false b16 b17 b18 b19 v7 v15 v18 v20 v21 v25 v26 v29 v30 x7) (hu : ∃ ad, u26 = .slice (some ad) 0 0) : TI W0 w g r n1 n3 l1 lw l3 b2 b5 b7 b8 b12 true b16 b17 b18 b19 v7 v15 v18 v20 v21 v25 u26 v29 v30 x7 :=
  ⟨h.below, h.c12, h.c16, h.c17, h.c19, h.e15, h.e18, h.e20, h.e21, h.e25, (fun _ _ => hu), h.e29, h.e30, h.e7, h.e7t, h.e19, h.e19b⟩
theorem TI.s16 {u29 : Value} {foot : Option Nat} (h0 : TI W0 w g r n1 n3 l1 lw l3 b2 b5 b7 b8 true b13 false b17 b18 b19 v7 v15 v18 v20 v21 v25 v26 v29 v30 x7) (hb : Below w.heap.size w w') (hf : Fr w' w.heap.size foot u29 n3 l3) : TI W0 w' g r n1 n3 l1 lw l3 b2 b5 b7 b8 true b13 true b17 b18 b19 v7 v15 v18 v20 v21 v25 v26 u29 v30 x7 := by
  have h := h0.step hb
  have f17 : b17 ≠ true := fun e => by have := h.c17 e; cases this
  have f19 : b19 ≠ true := fun e => f17 (h.c19 e).1
  exact ⟨h.below, h.c12, (fun _ => rfl), (fun _ => rfl), h.c19, h.e15, h.e18, h.e20, h.e21, h.e25, (fun _ q => by cases q), (fun _ => by obtain ⟨f1, h1⟩ := h0.e21 (h0.c12 rfl); obtain ⟨f2, nw, h2⟩ := h0.e25 rfl; exact ⟨foot, w.heap.size, h0.below.size, hf, ⟨f1, fun j e => (h1.lt j e).2, h1.step hb⟩, f2, nw, fun j e => (h2.lt j e).2, h2.step hb⟩), (fun p => absurd p f17), h.e7, h.e7t, (fun p => absurd p f19), (fun p => absurd p f19)⟩
theorem TI.s17 {u30 : Value} (h : TI W0 w g r n1 n3 l1 lw l3 b2 b5 b7 b8 b12 b13 true false b18 b19 v7 v15 v18 v20 v21 v25 v26 v29 v30 x7) (hu : u30 = .agg #[.int .i64 r, v21, v25, v29]) : TI W0 w g r n1 n3 l1 lw l3 b2 b5 b7 b8 b12 b13 true true b18 b19 v7 v15 v18 v20 v21 v25 v26 v29 u30 x7 :=
  ⟨h.below, h.c12, h.c16, (fun _ => rfl), (fun p => ⟨rfl, (h.c19 p).2⟩), h.e15, h.e18, h.e20, h.e21, h.e25, h.e26, h.e29, (fun _ => hu), h.e7, h.e7t, h.e19, h.e19b⟩
theorem TI.s18 {u7 : Value} {y7 : Nat} (h : TI W0 w g r n1 n3 l1 lw l3 b2 b5 b7 b8 b12 b13 b16 b17 false b19 v7 v15 v18 v20 v21 v25 v26 v29 v30 x7) (hu : u7 = .pointer (some ⟨y7, 0, none⟩)) (hy : W0.heap.size ≤ y7) (ht : ∃ cs, w.heap[y7]? = some (.cells cs 29 (0, 0))) (hc : Cel8 w y7 (.int .i64 0) (.slice none 0 0) (.slice none 0 0) (.slice none 0 0)) : TI W0 w g r n1 n3 l1 lw l3 b2 b5 b7 b8 b12 b13 b16 b17 true b19 u7 v15 v18 v20 v21 v25 v26 v29 v30 y7 :=
  ⟨h.below, h.c12, h.c16, h.c17, (fun p => ⟨(h.c19 p).1, rfl⟩), h.e15, h.e18, h.e20, h.e21, h.e25, h.e26, h.e29, h.e30, (fun _ => ⟨hu, hy⟩), (fun _ _ => ⟨ht, hc⟩), (fun p => by have := (h.c19 p).2; cases this), (fun p => by have := (h.c19 p).2; cases this)⟩
theorem TI.s19 (h : TI W0 w g r n1 n3 l1 lw l3 b2 b5 b7 true true b13 true true true false v7 v15 v18 v20 v21 v25 v26 v29 v30 x7) : TI W0 ((put4 w x7 (.int .i64 r) v21 v25 v29)) g r n1 n3 l1 lw l3 b2 b5 b7 true true b13 true true true true v7 v15 v18 v20 v21 v25 v26 v29 v30 x7 := by
  obtain ⟨⟨cs, hc⟩, hl⟩ := h.e7t rfl rfl
  have keep : ∀ {foot : Option Nat} {v : Value} {n : Nat} {xs : List Int}, Fr w W0.heap.size foot v n xs → Fr (put4 w x7 (.int .i64 r) v21 v25 v29) W0.heap.size foot v n xs := fun hf => hf.keep (fun j e => put4_block _ _ _ _ _ _ _ (fun e' => fr_apart hf hc (by rw [e, e'])))
  exact ⟨(below_put4 h.below (h.e7 rfl).2 _ _ _ _), h.c12, h.c16, h.c17, (fun _ => ⟨rfl, rfl⟩), h.e15, (fun _ q => by cases q), (fun _ q => by cases q), (fun _ => by obtain ⟨foot, hf⟩ := h.e21 rfl; exact ⟨foot, keep hf⟩), (fun _ => by obtain ⟨foot, nw, hf⟩ := h.e25 rfl; exact ⟨foot, nw, keep hf⟩), h.e26, (fun _ => by obtain ⟨foot, B, hB, hf, ⟨f1, k1, h1⟩, f2, nw, k2, h2⟩ := h.e29 rfl; exact ⟨foot, B, hB, hf.keep (fun j e => put4_block _ _ _ _ _ _ _ (fun e' => fr_apart hf hc (by rw [e, e']))), ⟨f1, k1, keep h1⟩, f2, nw, k2, keep h2⟩), h.e30, h.e7, (fun _ q => by cases q), (fun _ => hl.put _ _ _ _), (fun _ h0 g c e => by obtain ⟨foot, B, hB, hf, _⟩ := h.e29 rfl; exact fr_ne hf hc h0 e)⟩
end
end Go.Proofs.Ytncmliojndgoiaa

