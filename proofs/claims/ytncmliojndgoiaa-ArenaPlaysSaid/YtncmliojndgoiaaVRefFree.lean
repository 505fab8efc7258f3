/- The document's Take of nobody, and Free, by their contracts. -/
import Derived.Test.YtncmliojndgoiaaVRefTake
namespace Go.Proofs.Ytncmliojndgoiaa
open Go.RowKit
set_option linter.unusedVariables false

set_option maxHeartbeats 4000000 in
set_option maxRecDepth 100000 in
theorem refTake_none (P : Nat → Prop) (A1 : Option Addr) (n1 c1 : Nat) (A2 : Option Addr) (n2 c2 : Nat) (A3 : Option Addr) (n3 c3 : Nat) (a : Vp.Ar) (w : World) (h : X8 w P A1 n1 c1 A2 n2 c2 A3 n3 c3 a) (hr : a.room ≤ 64) (hp : Vp.pick a = 0) :
    Calls Try.prog 13 #[.agg #[.int .i64 a.room, .slice A1 n1 c1, .slice A2 n2 c2, .slice A3 n3 c3]] w (MadeX P (Vp.take a).1 [.int .i64 (Vp.take a).2.1, .int .i64 (Vp.take a).2.2.1, .bool (Vp.take a).2.2.2] w) := by
  have H := Lib.hid h
  obtain ⟨W0, hW0, hX0⟩ := Bx4.start w (.int .i64 a.room) (.slice A1 n1 c1) (.slice A2 n2 c2) (.slice A3 n3 c3) 29 29
  have X0 := Lib.hid hX0
  have E0 := Lib.hid hW0
  have c0 := hX0.a.c0
  have d1 := hX0.a.c1
  have d2 := hX0.a.c2
  have d3 := hX0.a.c3
  have HP := Lib.hid hp
  clear h hX0 hW0 hp
  go_enter Try.func13, Try.ntmps13
  go_wp2_with fail
  rw [← E0.out]
  clear E0
  refine (refPick_any (.slice A3 n3 c3) A1 n1 c1 A2 n2 c2 a W0 (H.out.l.below X0.out.below) (H.out.f.below X0.out.below) hr).mono ?_
  rintro e w1 ⟨rfl, hb1⟩
  rw [HP.out]
  have X1 := Lib.hid (X0.out.step hb1)
  clear c0 d1 d2 d3 X0 hb1
  have d0 := X1.out.a.c0
  have d1 := X1.out.a.c1
  have d2 := X1.out.a.c2
  have d3 := X1.out.a.c3
  have R1 := X1.out.r
  have r0 := R1.c0
  have r1 := R1.c1
  have r2 := R1.c2
  have r3 := R1.c3
  have rz := R1.z
  have q0 := rz 0
  have q1 := rz 1
  have q2 := rz 2
  have q3 := rz 3
  have T := R1.put (.int .i64 a.room) (.slice A1 n1 c1) (.slice A2 n2 c2) (.slice A3 n3 c3)
  have hb10 := below_put4 X1.out.below (Nat.le_succ w.heap.size) (.int .i64 a.room) (.slice A1 n1 c1) (.slice A2 n2 c2) (.slice A3 n3 c3)
  have HM := Lib.hid (show MadeX P (Vp.take a).1 [.int .i64 (Vp.take a).2.1, .int .i64 (Vp.take a).2.2.1, .bool (Vp.take a).2.2.2] w (.returned (.tuple (#[.agg #[.int .i64 a.room, .slice A1 n1 c1, .slice A2 n2 c2, .slice A3 n3 c3]] ++ [Value.int .i64 0, .int .i64 0, .bool false].toArray))) _ by
    have hpk : Vp.take a = (a, 0, 0, false) := by
      unfold Vp.take
      rw [if_pos HP.out]
    rw [hpk]
    exact ⟨_, _, _, _, _, _, _, _, _, rfl, H.out.step hb10, hb10⟩)
  have k0 := T.c0
  have k1 := T.c1
  have k2 := T.c2
  have k3 := T.c3
  unfold put4 at k0 k1 k2 k3 HM
  clear R1 rz T hb10
  go_wp2_with fail
  refine bodyPost_ret (v := .tuple #[.agg #[.int .i64 a.room, .slice A1 n1 c1, .slice A2 n2 c2, .slice A3 n3 c3], .int .i64 0, .int .i64 0, .bool false]) ?_ rfl ?_
  · simp [results, Try.results13, go_sem, k0, k1, k2, k3]
  exact HM.out
set_option maxHeartbeats 4000000 in
set_option maxRecDepth 100000 in
theorem refFree_no (P : Nat → Prop) (A1 : Option Addr) (n1 c1 : Nat) (A2 : Option Addr) (n2 c2 : Nat) (A3 : Option Addr) (n3 c3 : Nat) (a : Vp.Ar) (g : Int) (w : World) (h : X8 w P A1 n1 c1 A2 n2 c2 A3 n3 c3 a) (hn1 : n1 ≤ 1000) (hp : a.live.contains g = false) :
    Calls Try.prog 15 #[.agg #[.int .i64 a.room, .slice A1 n1 c1, .slice A2 n2 c2, .slice A3 n3 c3], .int .i64 g] w (MadeX P (Vp.free a g).1 [.bool (Vp.free a g).2] w) := by
  have H := Lib.hid h
  obtain ⟨W0, hW0, hX0⟩ := Bx4.start w (.int .i64 a.room) (.slice A1 n1 c1) (.slice A2 n2 c2) (.slice A3 n3 c3) 29 29
  have X0 := Lib.hid hX0
  have E0 := Lib.hid hW0
  have c0 := hX0.a.c0
  have d1 := hX0.a.c1
  have d2 := hX0.a.c2
  have d3 := hX0.a.c3
  have HP := Lib.hid hp
  clear h hX0 hW0 hp
  go_enter Try.func15, Try.ntmps15
  go_wp2_with fail
  rw [← E0.out]
  clear E0
  refine (in_any A1 n1 c1 a.live g W0 W0.heap.size (Lib.hid H.out.l.len) (by omega) (H.out.l.below X0.out.below).row).mono ?_
  rintro e w1 ⟨rfl, rfl⟩
  rw [show Tp.has a.live g = a.live.contains g from rfl, HP.out]
  have R1 := X0.out.r
  have r0 := R1.c0
  have r1 := R1.c1
  have r2 := R1.c2
  have r3 := R1.c3
  have rz := R1.z
  have q0 := rz 0
  have q1 := rz 1
  have q2 := rz 2
  have q3 := rz 3
  have T := R1.put (.int .i64 a.room) (.slice A1 n1 c1) (.slice A2 n2 c2) (.slice A3 n3 c3)
  have hb10 := below_put4 X0.out.below (Nat.le_succ w.heap.size) (.int .i64 a.room) (.slice A1 n1 c1) (.slice A2 n2 c2) (.slice A3 n3 c3)
  have HM := Lib.hid (show MadeX P (Vp.free a g).1 [.bool (Vp.free a g).2] w (.returned (.tuple (#[.agg #[.int .i64 a.room, .slice A1 n1 c1, .slice A2 n2 c2, .slice A3 n3 c3]] ++ [Value.bool false].toArray))) _ by
    have hpk : Vp.free a g = (a, false) := by
      unfold Vp.free
      rw [if_neg (by rw [HP.out]; decide)]
    rw [hpk]
    exact ⟨_, _, _, _, _, _, _, _, _, rfl, H.out.step hb10, hb10⟩)
  have k0 := T.c0
  have k1 := T.c1
  have k2 := T.c2
  have k3 := T.c3
  unfold put4 at k0 k1 k2 k3 HM
  clear R1 rz T hb10
  go_wp2_with fail
  refine bodyPost_ret (v := .tuple #[.agg #[.int .i64 a.room, .slice A1 n1 c1, .slice A2 n2 c2, .slice A3 n3 c3], .bool false]) ?_ rfl ?_
  · simp [results, Try.results15, go_sem, k0, k1, k2, k3]
  exact HM.out
/-- Whatever comes up next keeps I; behind so many the rest goes on. -/
theorem wpAnyH_inv2 {P : Program} {ops : Array Oper} {Q : Exit → Act → World → Prop} {md : Region.Mode} {S : World → Prop} (m : Nat) (I : Nat → Array Bool → Act → World → Prop)
    (zero : ∀ l a w, I 0 l a w → wpAnyH P md ops Q S m l a w)
    (step : ∀ n l a w, I (n + 1) l a w → Region.ready md ops l ≠ [] ∧ ∀ i ∈ Region.ready md ops l, wpOp P ops Q i (fun a' w' => S w' ∧ I n (l.setIfInBounds i true) a' w') a w) :
    ∀ n l a w, I n l a w → wpAnyH P md ops Q S (n + m) l a w
  | 0, l, a, w, h => by rw [Nat.zero_add]; exact zero l a w h
  | n + 1, l, a, w, h => by
    rw [show n + 1 + m = (n + m) + 1 by omega]
    exact ⟨fun hr => absurd hr (step n l a w h).1, fun i hi => wpOp_mono (fun a' w' h' => ⟨h'.1, wpAnyH_inv2 m I zero step n _ a' w' h'.2⟩) ((step n l a w h).2 i hi)⟩
/-- Just one may come next. -/
theorem wpAnyH_only {P : Program} {ops : Array Oper} {Q : Exit → Act → World → Prop} {md : Region.Mode} {S : World → Prop} {i fuel : Nat} {listed : Array Bool} {a : Act} {w : World} (hr : Region.ready md ops listed = [i])
    (h : wpOp P ops Q i (fun a' w' => S w' ∧ wpAnyH P md ops Q S fuel (listed.setIfInBounds i true) a' w') a w) : wpAnyH P md ops Q S (fuel + 1) listed a w :=
  ⟨(fun e => by rw [hr] at e; cases e), (fun j hj => by rw [hr] at hj; obtain rfl := List.mem_singleton.1 hj; exact h)⟩
/-- What has come up while the document's Free makes its arena (b5 the living without it, b6 an empty list, b9 the free copied, b11 the new one, b12 both), and what holds of it. -/
structure FI (W0 w : World) (g : Int) (n2 : Nat) (lw l2 : List Int) (b5 b6 b9 b11 b12 : Bool) (v17 v18 v21 v23 v24 : Value) : Prop where
  below : Below W0.heap.size W0 w
  c9 : b9 = true → b5 = true ∧ b6 = true
  c12 : b12 = true → b9 = true ∧ b11 = true
  e17 : b5 = true → ∃ foot nw, Fr w W0.heap.size foot v17 nw lw
  e18 : b6 = true → b9 = false → ∃ ad, v18 = .slice (some ad) 0 0
  e21 : b9 = true → b12 = false → ∃ (foot : Option Nat) (B : Nat), W0.heap.size ≤ B ∧ Fr w B foot v21 n2 l2 ∧ (∃ f1 nw, (∀ j, f1 = some j → j < B) ∧ Fr w W0.heap.size f1 v17 nw lw)
  e23 : b11 = true → b12 = false → ∃ y, v23 = .slice (some ⟨y, 0, none⟩) 1 1 ∧ w.cell? ⟨y, 0, none⟩ = some (.int .i64 g)
  e24 : b12 = true → ∃ foot, Fr w W0.heap.size foot v24 (n2 + 1) (l2 ++ [g])
section
variable {W0 w w' : World} {g : Int} {n2 : Nat} {lw l2 : List Int} {b5 b6 b9 b11 b12 : Bool} {v17 v18 v21 v23 v24 : Value}
theorem FI.step (h : FI W0 w g n2 lw l2 b5 b6 b9 b11 b12 v17 v18 v21 v23 v24) (hb : Below w.heap.size w w') : FI W0 w' g n2 lw l2 b5 b6 b9 b11 b12 v17 v18 v21 v23 v24 :=
  ⟨h.below.trans (hb.mono h.below.size), h.c9, h.c12, (fun p => by obtain ⟨foot, nw, hf⟩ := h.e17 p; exact ⟨foot, nw, hf.step hb⟩), h.e18, (fun p q => by obtain ⟨foot, B, hB, hf, f1, nw, k1, h1⟩ := h.e21 p q; exact ⟨foot, B, hB, hf.step hb, f1, nw, k1, h1.step hb⟩), (fun p q => by obtain ⟨y, e, hc⟩ := h.e23 p q; exact ⟨y, e, keepcell hb hc⟩), (fun p => by obtain ⟨foot, hf⟩ := h.e24 p; exact ⟨foot, hf.step hb⟩)⟩
theorem FI.s5 {u17 : Value} (h : FI W0 w g n2 lw l2 false b6 b9 b11 b12 v17 v18 v21 v23 v24) (hu : ∃ foot nw, Fr w W0.heap.size foot u17 nw lw) : FI W0 w g n2 lw l2 true b6 b9 b11 b12 u17 v18 v21 v23 v24 := by
  have f9 : b9 ≠ true := fun e => by have := (h.c9 e).1; cases this
  exact ⟨h.below, (fun p => absurd p f9), h.c12, (fun _ => hu), h.e18, (fun p => absurd p f9), h.e23, h.e24⟩
theorem FI.s6 {u18 : Value} (h : FI W0 w g n2 lw l2 b5 false b9 b11 b12 v17 v18 v21 v23 v24) (hu : ∃ ad, u18 = .slice (some ad) 0 0) : FI W0 w g n2 lw l2 b5 true b9 b11 b12 v17 u18 v21 v23 v24 :=
  ⟨h.below, (fun p => ⟨(h.c9 p).1, rfl⟩), h.c12, h.e17, (fun _ _ => hu), h.e21, h.e23, h.e24⟩
theorem FI.s9 {u21 : Value} {foot : Option Nat} (h0 : FI W0 w g n2 lw l2 true true false b11 b12 v17 v18 v21 v23 v24) (hb : Below w.heap.size w w') (hf : Fr w' w.heap.size foot u21 n2 l2) : FI W0 w' g n2 lw l2 true true true b11 b12 v17 v18 u21 v23 v24 := by
  have h := h0.step hb
  have f12 : b12 ≠ true := fun e => by have := (h.c12 e).1; cases this
  exact ⟨h.below, (fun _ => ⟨rfl, rfl⟩), (fun p => absurd p f12), h.e17, (fun _ q => by cases q), (fun _ _ => by obtain ⟨f1, nw, h1⟩ := h0.e17 rfl; exact ⟨foot, w.heap.size, h0.below.size, hf, f1, nw, fun j e => (h1.lt j e).2, h1.step hb⟩), h.e23, (fun p => absurd p f12)⟩
theorem FI.s11 {u23 : Value} (h : FI W0 w g n2 lw l2 b5 b6 b9 false b12 v17 v18 v21 v23 v24) (hu : ∃ y, u23 = .slice (some ⟨y, 0, none⟩) 1 1 ∧ w.cell? ⟨y, 0, none⟩ = some (.int .i64 g)) : FI W0 w g n2 lw l2 b5 b6 b9 true b12 v17 v18 v21 u23 v24 :=
  ⟨h.below, h.c9, (fun p => ⟨(h.c12 p).1, rfl⟩), h.e17, h.e18, h.e21, (fun _ _ => hu), h.e24⟩
theorem FI.s12 {u24 : Value} {foot : Option Nat} {B : Nat} (h : FI W0 w g n2 lw l2 true true true true false v17 v18 v21 v23 v24) (hB : W0.heap.size ≤ B) (h21 : Fr w B foot v21 n2 l2) (h17 : ∃ f1 nw, (∀ j, f1 = some j → j < B) ∧ Fr w W0.heap.size f1 v17 nw lw) (hg : w.grownBy w' foot) (hu : ∃ foot, Fr w' W0.heap.size foot u24 (n2 + 1) (l2 ++ [g])) : FI W0 w' g n2 lw l2 true true true true true v17 v18 v21 v23 u24 := by
  obtain ⟨f1, nw, k1, h1⟩ := h17
  exact ⟨(h.below.grown hg h.below.size (fun k e => by have := (h21.lt k e).1; omega)), (fun _ => ⟨rfl, rfl⟩), (fun _ => ⟨rfl, rfl⟩), (fun _ => ⟨f1, nw, h1.keep (fun j e => hg.block j (h1.lt j e).2 (fun e' => by have := (h21.lt j e'.symm).1; have := k1 j e; omega))⟩), (fun _ q => by cases q), (fun _ q => by cases q), (fun _ q => by cases q), (fun _ => hu)⟩
end
set_option maxHeartbeats 4000000 in
set_option maxRecDepth 100000 in
theorem refFree_yes (P : Nat → Prop) (A1 : Option Addr) (n1 c1 : Nat) (A2 : Option Addr) (n2 c2 : Nat) (A3 : Option Addr) (n3 c3 : Nat) (a : Vp.Ar) (g : Int) (w : World) (h : X8 w P A1 n1 c1 A2 n2 c2 A3 n3 c3 a) (hn1 : n1 ≤ 1000) (hn2 : n2 ≤ 1000) (hB : ∀ b, w.heap.size ≤ b → P b) (hp : a.live.contains g = true) :
    Calls Try.prog 15 #[.agg #[.int .i64 a.room, .slice A1 n1 c1, .slice A2 n2 c2, .slice A3 n3 c3], .int .i64 g] w (MadeX P (Vp.free a g).1 [.bool (Vp.free a g).2] w) := by
  have H := Lib.hid h
  obtain ⟨W0, hW0, hX0⟩ := Bx4.start w (.int .i64 a.room) (.slice A1 n1 c1) (.slice A2 n2 c2) (.slice A3 n3 c3) 29 29
  have X0 := Lib.hid hX0
  have E0 := Lib.hid hW0
  have c0 := hX0.a.c0
  have d1 := hX0.a.c1
  have d2 := hX0.a.c2
  have d3 := hX0.a.c3
  have HP := Lib.hid hp
  clear h hX0 hW0 hp
  go_enter Try.func15, Try.ntmps15
  go_wp2_with fail
  rw [← E0.out]
  clear E0
  refine (in_any A1 n1 c1 a.live g W0 W0.heap.size (Lib.hid H.out.l.len) (by omega) (H.out.l.below X0.out.below).row).mono ?_
  rintro e w1 ⟨rfl, rfl⟩
  rw [show Tp.has a.live g = a.live.contains g from rfl, HP.out]
  go_wp2_with fail
  refine wp_region_held_drew (S := fun w' => w'.cell? ⟨w.heap.size, 0, none⟩ = some (.int .i64 a.room) ∧ w'.cell? ⟨w.heap.size, 1, none⟩ = some (.slice A1 n1 c1) ∧ w'.cell? ⟨w.heap.size, 2, none⟩ = some (.slice A2 n2 c2) ∧ w'.cell? ⟨w.heap.size, 3, none⟩ = some (.slice A3 n3 c3)) (by kernel_rfl) ⟨c0, d1, d2, d3⟩ (fun hHeld => ?_)
  refine wpAnyH_takes (i := 0) (v := .pointer (some ⟨w.heap.size, 0, none⟩)) (some 12) rfl rfl (by kernel_rfl) (by kernel_rfl) (by kernel_rfl) (fun _ _ _ h => h) (Or.inl ⟨by rfl, (by intro w hSw; (try dsimp only at hSw); go_simp; first | done | with_reducible rfl)⟩) (by assumption) ?_
  simp only [Act.put, List.setIfInBounds_toArray, List.set_cons_zero, List.set_cons_succ]
  refine wpAnyH_takes (i := 1) (v := .int .i64 a.room) (some 13) rfl rfl (by kernel_rfl) (by kernel_rfl) (by kernel_rfl) (fun _ _ _ h => h) (Or.inl ⟨by rfl, (by intro w hSw; (try dsimp only at hSw); go_simp; first | done | with_reducible rfl)⟩) (by assumption) ?_
  simp only [Act.put, List.setIfInBounds_toArray, List.set_cons_zero, List.set_cons_succ]
  refine wpAnyH_takes (i := 2) (v := .pointer (some ⟨w.heap.size, 1, none⟩)) (some 14) rfl rfl (by kernel_rfl) (by kernel_rfl) (by kernel_rfl) (fun _ _ _ h => h) (Or.inl ⟨by rfl, (by intro w hSw; (try dsimp only at hSw); go_simp; first | done | with_reducible rfl)⟩) (by assumption) ?_
  simp only [Act.put, List.setIfInBounds_toArray, List.set_cons_zero, List.set_cons_succ]
  refine wpAnyH_takes (i := 3) (v := .slice A1 n1 c1) (some 15) rfl rfl (by kernel_rfl) (by kernel_rfl) (by kernel_rfl) (fun _ _ _ h => h) (Or.inl ⟨by rfl, (by intro w hSw; (try dsimp only at hSw); go_simp; first | done | with_reducible rfl)⟩) (by assumption) ?_
  simp only [Act.put, List.setIfInBounds_toArray, List.set_cons_zero, List.set_cons_succ]
  refine wpAnyH_takes (i := 4) (v := .int .i64 g) (some 16) rfl rfl (by kernel_rfl) (by kernel_rfl) (by kernel_rfl) (fun _ _ _ h => h) (Or.inl ⟨by rfl, (by intro w hSw; (try dsimp only at hSw); go_simp; first | done | with_reducible rfl)⟩) (by assumption) ?_
  simp only [Act.put, List.setIfInBounds_toArray, List.set_cons_zero, List.set_cons_succ]
  refine wpAnyH_takes (i := 7) (v := .pointer (some ⟨w.heap.size, 2, none⟩)) (some 19) rfl rfl (by kernel_rfl) (by kernel_rfl) (by kernel_rfl) (fun _ _ _ h => h) (Or.inl ⟨by rfl, (by intro w hSw; (try dsimp only at hSw); go_simp; first | done | with_reducible rfl)⟩) (by assumption) ?_
  simp only [Act.put, List.setIfInBounds_toArray, List.set_cons_zero, List.set_cons_succ]
  refine wpAnyH_takes (i := 8) (v := .slice A2 n2 c2) (some 20) rfl rfl (by kernel_rfl) (by kernel_rfl) (by kernel_rfl) (fun _ _ _ h => h) (Or.inl ⟨by rfl, (by intro w hSw; (try dsimp only at hSw); go_simp; first | done | with_reducible rfl)⟩) (by assumption) ?_
  simp only [Act.put, List.setIfInBounds_toArray, List.set_cons_zero, List.set_cons_succ]
  refine wpAnyH_takes (i := 10) (v := .int .i64 g) (some 22) rfl rfl (by kernel_rfl) (by kernel_rfl) (by kernel_rfl) (fun _ _ _ h => h) (Or.inl ⟨by rfl, (by intro w hSw; (try dsimp only at hSw); go_simp; first | done | with_reducible rfl)⟩) (by assumption) ?_
  simp only [Act.put, List.setIfInBounds_toArray, List.set_cons_zero, List.set_cons_succ]
  refine wpAnyH_takes (i := 13) (v := .pointer (some ⟨w.heap.size, 3, none⟩)) (some 25) rfl rfl (by kernel_rfl) (by kernel_rfl) (by kernel_rfl) (fun _ _ _ h => h) (Or.inl ⟨by rfl, (by intro w hSw; (try dsimp only at hSw); go_simp; first | done | with_reducible rfl)⟩) (by assumption) ?_
  simp only [Act.put, List.setIfInBounds_toArray, List.set_cons_zero, List.set_cons_succ]
  refine wpAnyH_takes (i := 14) (v := .slice A3 n3 c3) (some 26) rfl rfl (by kernel_rfl) (by kernel_rfl) (by kernel_rfl) (fun _ _ _ h => h) (Or.inl ⟨by rfl, (by intro w hSw; (try dsimp only at hSw); go_simp; first | done | with_reducible rfl)⟩) (by assumption) ?_
  simp only [Act.put, List.setIfInBounds_toArray, List.set_cons_zero, List.set_cons_succ]
  have HS := Lib.hid (fun (w' : World) (hb : Below w1.heap.size w1 w') => (show w'.cell? ⟨w.heap.size, 0, none⟩ = some (.int .i64 a.room) ∧ w'.cell? ⟨w.heap.size, 1, none⟩ = some (.slice A1 n1 c1) ∧ w'.cell? ⟨w.heap.size, 2, none⟩ = some (.slice A2 n2 c2) ∧ w'.cell? ⟨w.heap.size, 3, none⟩ = some (.slice A3 n3 c3) from ⟨keepcell hb c0, keepcell hb d1, keepcell hb d2, keepcell hb d3⟩))
  clear hHeld c0 d1 d2 d3
  have RL := Lib.hid (H.out.step (X0.out.below))
  refine wpAnyH_inv2 3 (fun n l act w' => ∃ (b5 b6 b9 b11 b12 : Bool) (v17 v18 v21 v23 v24 : Value), l = #[true, true, true, true, true, b5, b6, true, true, b9, true, b11, b12, true, true, false, false, false] ∧ n + b5.toNat + b6.toNat + b9.toNat + b11.toNat + b12.toNat = 5 ∧ act = (⟨#[Value.agg #[.int .i64 a.room, .slice A1 n1 c1, .slice A2 n2 c2, .slice A3 n3 c3], .int .i64 g, .pointer (some ⟨w.heap.size, 0, none⟩), undef, .pointer (some ⟨w.heap.size + 1, 0, none⟩), .bool false, .pointer (some ⟨w.heap.size, 1, none⟩), .slice A1 n1 c1, .int .i64 g, .bool true, .bool false, undef, .pointer (some ⟨w.heap.size, 0, none⟩), .int .i64 a.room, .pointer (some ⟨w.heap.size, 1, none⟩), .slice A1 n1 c1, .int .i64 g, v17, v18, .pointer (some ⟨w.heap.size, 2, none⟩), .slice A2 n2 c2, v21, .int .i64 g, v23, v24, .pointer (some ⟨w.heap.size, 3, none⟩), .slice A3 n3 c3, undef], []⟩ : Act) ∧ FI w1 w' g n2 (Vp.without a.live g) a.freed b5 b6 b9 b11 b12 v17 v18 v21 v23 v24) ?zero ?step 5 _ _ _ ?start
  case start => exact ⟨false, false, false, false, false, undef, undef, undef, undef, undef, rfl, rfl, rfl, ⟨(Below.refl _ _).drew, (fun e => by cases e), (fun e => by cases e), (fun e => by cases e), (fun e => by cases e), (fun e => by cases e), (fun e => by cases e), (fun e => by cases e)⟩⟩
  case zero =>
    rintro l act w' ⟨b5, b6, b9, b11, b12, v17, v18, v21, v23, v24, rfl, hn, rfl, hT⟩
    have key : (b5 && b6 && b9 && b11 && b12) = true := by
      simp only [Bool.and_eq_true]
      have t5 := Bool.toNat_le b5; have t6 := Bool.toNat_le b6; have t9 := Bool.toNat_le b9; have t11 := Bool.toNat_le b11; have t12 := Bool.toNat_le b12
      refine ⟨⟨⟨⟨?_, ?_⟩, ?_⟩, ?_⟩, ?_⟩ <;> (apply Bool.toNat_eq_one.1; omega)
    simp only [Bool.and_eq_true] at key
    obtain ⟨⟨⟨⟨rfl, rfl⟩, rfl⟩, rfl⟩, rfl⟩ := key
    clear hn
    obtain ⟨f1, nw, h1⟩ := hT.e17 rfl
    obtain ⟨f2, h2⟩ := hT.e24 rfl
    obtain ⟨B1, e1n, rfl, _⟩ := h1.row
    obtain ⟨B2, e2n, rfl, _⟩ := h2.row
    have K1 := Lib.hid h1
    have K2 := Lib.hid h2
    have BW := Lib.hid hT.below
    clear hT h1 h2
    refine wpAnyH_takes (i := 15) (v := .agg #[.int .i64 a.room, .slice B1 nw e1n, .slice B2 (n2 + 1) e2n, .slice A3 n3 c3]) (some 27) rfl rfl (by kernel_rfl) (by kernel_rfl) (by kernel_rfl) (fun _ _ _ h => h) (Or.inl ⟨by rfl, (by intro w hSw; (try dsimp only at hSw); go_simp; first | done | with_reducible rfl)⟩) (HS.out _ BW.out) ?_
    simp only [Act.put, List.setIfInBounds_toArray, List.set_cons_zero, List.set_cons_succ]
    have R1 := X0.out.r.step BW.out
    have r0 := R1.c0
    have r1 := R1.c1
    have r2 := R1.c2
    have r3 := R1.c3
    have rz := R1.z
    have q0 := rz 0
    have q1 := rz 1
    have q2 := rz 2
    have q3 := rz 3
    have hs1 := X0.out.size
    obtain ⟨W10, hW10⟩ : ∃ W10, W10 = put4 w' (w.heap.size + 1) (.int .i64 a.room) (.slice B1 nw e1n) (.slice B2 (n2 + 1) e2n) (.slice A3 n3 c3) := ⟨_, rfl⟩
    have bk : ∀ j, w1.heap.size ≤ j → W10.heap[j]? = w'.heap[j]? := fun j hj => by rw [hW10]; exact put4_block _ _ _ _ _ _ _ (by omega)
    have T := R1.put (.int .i64 a.room) (.slice B1 nw e1n) (.slice B2 (n2 + 1) e2n) (.slice A3 n3 c3)
    rw [← hW10] at T
    have g1 := Lib.hid (K1.out.keep (fun j e => bk j ((K1.out.lt j e).1)))
    have g2 := Lib.hid (K2.out.keep (fun j e => bk j ((K2.out.lt j e).1)))
    have hb10 : Below w.heap.size w W10 := by rw [hW10]; exact below_put4 ((X0.out.below).trans (BW.out.mono X0.out.below.size)) (by omega) _ _ _ _
    have HM := Lib.hid (show MadeX P (Vp.free a g).1 [.bool (Vp.free a g).2] w (.returned (.tuple (#[.agg #[.int .i64 a.room, .slice B1 nw e1n, .slice B2 (n2 + 1) e2n, .slice A3 n3 c3]] ++ [Value.bool true].toArray))) W10 by
      have hpk : Vp.free a g = (⟨a.room, Vp.without a.live g, a.freed ++ [g], a.gens⟩, true) := by
        unfold Vp.free
        rw [if_pos HP.out]
      rw [hpk]
      obtain ⟨y1, u1, k1, r1', p1'⟩ := g1.out.row
      obtain ⟨y2, u2, k2, r2', p2'⟩ := g2.out.row
      injection k1 with k1 _ k1'
      injection k2 with k2 _ k2'
      subst k1 k1' k2 k2'
      have hbs := X0.out.below.size
      refine ⟨_, _, _, _, _, _, _, _, _, rfl, ⟨r1', r2', (H.out.step hb10).g, p1' P (fun b hb => hB b (by omega)), p2' P (fun b hb => hB b (by omega)), H.out.pg⟩, hb10⟩)
    have HS10 := Lib.hid (show W10.cell? ⟨w.heap.size, 0, none⟩ = some (.int .i64 a.room) ∧ W10.cell? ⟨w.heap.size, 1, none⟩ = some (.slice A1 n1 c1) ∧ W10.cell? ⟨w.heap.size, 2, none⟩ = some (.slice A2 n2 c2) ∧ W10.cell? ⟨w.heap.size, 3, none⟩ = some (.slice A3 n3 c3) by
      have bx : W10.heap[w.heap.size]? = w'.heap[w.heap.size]? := by rw [hW10]; exact put4_block _ _ _ _ _ _ _ (by omega)
      have hh := (X0.out.a.step BW.out).keep bx
      exact ⟨hh.c0, hh.c1, hh.c2, hh.c3⟩)
    have k0 := T.c0
    have k1 := T.c1
    have k2 := T.c2
    have k3 := T.c3
    unfold put4 at hW10
    rw [hW10] at k0 k1 k2 k3 HM HS10
    clear R1 rz T bk g1 g2 hb10 hW10
    refine wpAnyH_only (i := 16) (by first | rfl | decide +kernel) ?_
    refine wpOp_step rfl (fun K hK => ?_)
    go_simp
    refine hK _ _ ⟨HS10.out, ?_⟩
    refine wpAnyH_only (i := 17) (by first | rfl | decide +kernel) ?_
    refine wpOp_step rfl (fun K hK => ?_)
    go_simp
    refine hK _ _ ⟨HS10.out, ?_⟩
    refine ⟨by first | rfl | decide +kernel, ?_⟩
    go_wp2_with fail
    refine bodyPost_ret (v := .tuple #[.agg #[.int .i64 a.room, .slice B1 nw e1n, .slice B2 (n2 + 1) e2n, .slice A3 n3 c3], .bool true]) ?_ rfl ?_
    · simp [results, Try.results15, go_sem, k0, k1, k2, k3]
    exact HM.out
  case step =>
    rintro n l act w' ⟨b5, b6, b9, b11, b12, v17, v18, v21, v23, v24, rfl, hn, rfl, hT⟩
    have cons : ((!b9 || (b5 && b6)) && (!b12 || (b9 && b11))) = true := by
      have k9 := hT.c9
      have k12 := hT.c12
      cases b9 <;> cases b12 <;> simp_all
    have miss : (b5 && b6 && b9 && b11 && b12) = false := by
      rw [← Bool.not_eq_true]
      intro key
      simp only [Bool.and_eq_true] at key
      obtain ⟨⟨⟨⟨rfl, rfl⟩, rfl⟩, rfl⟩, rfl⟩ := key
      simp only [Bool.toNat_true] at hn
      omega
    refine ⟨?_, fun i hi => ?_⟩
    · clear hn hT
      revert b5 b6 b9 b11 b12
      decide +kernel
    have key : (fun i : Nat => (i == 5 && !b5) || (i == 6 && !b6) || (i == 9 && !b9 && b5 && b6) || (i == 11 && !b11) || (i == 12 && !b12 && b9 && b11)) i = true := by
      refine (List.all_eq_true (p := fun i : Nat => (i == 5 && !b5) || (i == 6 && !b6) || (i == 9 && !b9 && b5 && b6) || (i == 11 && !b11) || (i == 12 && !b12 && b9 && b11))).1 ?_ i hi
      clear hi hn hT
      revert b5 b6 b9 b11 b12
      decide +kernel
    clear hi cons miss
    simp only [Bool.or_eq_true, Bool.and_eq_true, beq_iff_eq, Bool.not_eq_true'] at key
    rcases key with (((⟨rfl, rfl⟩ | ⟨rfl, rfl⟩) | ⟨⟨⟨rfl, rfl⟩, rfl⟩, rfl⟩) | ⟨rfl, rfl⟩) | ⟨⟨⟨rfl, rfl⟩, rfl⟩, rfl⟩
    · refine wpOp_step rfl (fun K hK => ?_)
      go_simp
      have HK := Lib.hid hK
      clear hK
      go_wp2_with (go_at_call 23; refine (without_any A1 n1 c1 a.live g w' (RL.out.l.below hT.below) hn1).mono ?_; rintro e w2 ⟨u, q, rfl, ho, hb⟩)
      have T := FI.s5 (hT.step hb) ⟨_, q, Fr.mono (.inl ⟨ho, rfl⟩) hT.below.size⟩
      exact HK.out _ _ ⟨HS.out _ T.below, true, b6, b9, b11, b12, u, v18, v21, v23, v24, rfl, (by simp only [Bool.toNat_false, Bool.toNat_true] at hn ⊢; omega), rfl, T⟩
    · refine wpOp_step rfl (fun K hK => ?_)
      go_simp
      have T := FI.s6 (u18 := .slice (some ⟨w'.heap.size, 0, none⟩) 0 0) (hT.step (below_new w' (.cells #[] 3))) ⟨_, rfl⟩
      exact hK _ _ ⟨HS.out _ T.below, b5, true, b9, b11, b12, v17, _, v21, v23, v24, rfl, (by simp only [Bool.toNat_false, Bool.toNat_true] at hn ⊢; omega), rfl, T⟩
    · refine wpOp_step rfl (fun K hK => ?_)
      obtain ⟨ad, rfl⟩ := hT.e18 rfl rfl
      refine step_append_fresh (by rfl) (.tmp 18) (.tmp 20) (by rfl) ad (by rfl) A2 n2 c2 a.freed (by rfl) (RL.out.f.below hT.below) (by omega) ?_
      intro foot u w2 hf hb
      have T := FI.s9 hT hb hf
      exact hK _ _ ⟨HS.out _ T.below, true, true, true, b11, b12, v17, _, u, v23, v24, rfl, (by simp only [Bool.toNat_false, Bool.toNat_true] at hn ⊢; omega), rfl, T⟩
    · refine wpOp_step rfl (fun K hK => ?_)
      go_simp
      have T := FI.s11 (u23 := .slice (some ⟨w'.heap.size, 0, none⟩) 1 1) (hT.step (below_new w' (.cells #[.int .i64 g] 3))) ⟨w'.heap.size, rfl, by rw [World.cell?_alloc_at _ _ _ _ rfl]; rfl⟩
      exact hK _ _ ⟨HS.out _ T.below, b5, b6, b9, true, b12, v17, v18, v21, _, v24, rfl, (by simp only [Bool.toNat_false, Bool.toNat_true] at hn ⊢; omega), rfl, T⟩
    · refine wpOp_step rfl (fun K hK => ?_)
      obtain ⟨foot, B, hB', hf, h17⟩ := hT.e21 rfl rfl
      obtain ⟨y, rfl, hy⟩ := hT.e23 rfl rfl
      have hbs := hT.below.size
      refine step_append_fr (by rfl) (.tmp 21) (.tmp 23) (by rfl) w1.heap.size foot v21 n2 a.freed (by rfl) (hf.mono hB') (some ⟨y, 0, none⟩) 1 1 [g] (by rfl) (Row.one hy) (by omega) hT.below.size ?_
      intro foot' u w2 hf' hg
      obtain ⟨rfl, rfl⟩ := hT.c9 rfl
      have T := FI.s12 hT hB' hf h17 hg ⟨_, hf'⟩
      exact hK _ _ ⟨HS.out _ T.below, true, true, true, true, true, v17, v18, v21, _, u, rfl, (by simp only [Bool.toNat_false, Bool.toNat_true] at hn ⊢; omega), rfl, T⟩
end Go.Proofs.Ytncmliojndgoiaa

