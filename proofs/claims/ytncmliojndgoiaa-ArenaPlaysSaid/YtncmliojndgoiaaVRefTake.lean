/- The document's Take, by its contract. -/
import Derived.Test.YtncmliojndgoiaaVTI
import Derived.Test.YtncmliojndgoiaaVRefNew
import Derived.BigRegion
namespace Go.Proofs.Ytncmliojndgoiaa
open Go.RowKit
set_option linter.unusedVariables false

/-- The box of an argument of four cells, and behind it the place of a result of four. -/
structure Bx4 (w W : World) (x0 x1 x2 x3 : Value) : Prop where
  a : Cel8 W w.heap.size x0 x1 x2 x3
  r : Cel8 W (w.heap.size + 1) (.int .i64 0) (.slice none 0 0) (.slice none 0 0) (.slice none 0 0)
  below : Below w.heap.size w W
  size : w.heap.size + 2 ≤ W.heap.size
theorem Bx4.start (w : World) (x0 x1 x2 x3 : Value) (T U : TypeId) : ∃ W, W = (w.alloc (.cells #[x0, x1, x2, x3] T)).alloc (.cells #[.int .i64 0, .slice none 0 0, .slice none 0 0, .slice none 0 0] U) ∧ Bx4 w W x0 x1 x2 x3 := by
  refine ⟨_, rfl, (Cel8.new w x0 x1 x2 x3 T).step (below_new _ _), ?_, (below_new _ _).alloc (by simp) _, by simp⟩
  have := Cel8.new (w.alloc (.cells #[x0, x1, x2, x3] T)) (.int .i64 0) (.slice none 0 0) (.slice none 0 0) (.slice none 0 0) U
  simpa using this
theorem Bx4.step {w W W' : World} {x0 x1 x2 x3 : Value} (h : Bx4 w W x0 x1 x2 x3) (hb : Below W.heap.size W W') : Bx4 w W' x0 x1 x2 x3 := ⟨h.a.step hb, h.r.step hb, h.below.trans (hb.mono h.below.size), Nat.le_trans h.size hb.size⟩
/-- What a call leaves that tells an arena of the document's, and more. -/
def MadeX (P : Nat → Prop) (a : Vp.Ar) (more : List Value) (w0 : World) (e : Ending) (w' : World) : Prop :=
  ∃ A1 n1 c1 A2 n2 c2 A3 n3 c3, e = .returned (.tuple (#[.agg #[.int .i64 a.room, .slice A1 n1 c1, .slice A2 n2 c2, .slice A3 n3 c3]] ++ more.toArray)) ∧ X8 w' P A1 n1 c1 A2 n2 c2 A3 n3 c3 a ∧ Below w0.heap.size w0 w'
theorem of_frs {w W : World} {P : Nat → Prop} {B n1 n2 n3 : Nat} {f1 f2 f3 : Option Nat} {v1 v2 v3 : Value} {a : Vp.Ar} (h1 : Fr W B f1 v1 n1 a.live) (h2 : Fr W B f2 v2 n2 a.freed) (h3 : Fr W B f3 v3 n3 a.gens) (hP : ∀ b, B ≤ b → P b) :
    ∃ A1 c1 A2 c2 A3 c3, v1 = .slice A1 n1 c1 ∧ v2 = .slice A2 n2 c2 ∧ v3 = .slice A3 n3 c3 ∧ X8 W P A1 n1 c1 A2 n2 c2 A3 n3 c3 a := by
  obtain ⟨A1, c1, e1, r1, p1⟩ := h1.row
  obtain ⟨A2, c2, e2, r2, p2⟩ := h2.row
  obtain ⟨A3, c3, e3, r3, p3⟩ := h3.row
  exact ⟨A1, c1, A2, c2, A3, c3, e1, e2, e3, r1, r2, r3, p1 P hP, p2 P hP, p3 P hP⟩
set_option maxHeartbeats 4000000 in
set_option maxRecDepth 100000 in
theorem refTake_some (P : Nat → Prop) (A1 : Option Addr) (n1 c1 : Nat) (A2 : Option Addr) (n2 c2 : Nat) (A3 : Option Addr) (n3 c3 : Nat) (a : Vp.Ar) (t : Int) (k : Nat) (w : World) (h : X8 w P A1 n1 c1 A2 n2 c2 A3 n3 c3 a) (hok : Vp.Ok a k) (hr : a.room ≤ 64) (hn1 : n1 ≤ 1000) (hn2 : n2 ≤ 1000) (hn3 : n3 ≤ 1000) (hB : ∀ b, w.heap.size ≤ b → P b) (hp : Vp.pick a ≠ 0) (ht : t ≤ 1000000) (htop : ∀ j, a.gens.getD j 0 ≤ t) :
    Calls Try.prog 13 #[.agg #[.int .i64 a.room, .slice A1 n1 c1, .slice A2 n2 c2, .slice A3 n3 c3]] w (MadeX P (Vp.take a).1 [.int .i64 (Vp.take a).2.1, .int .i64 (Vp.take a).2.2.1, .bool (Vp.take a).2.2.2] w) := by
  have H := Lib.hid h
  obtain ⟨W0, hW0, hX0⟩ := Bx4.start w (.int .i64 a.room) (.slice A1 n1 c1) (.slice A2 n2 c2) (.slice A3 n3 c3) 29 29
  have X0 := Lib.hid hX0
  have E0 := Lib.hid hW0
  have c0 := hX0.a.c0
  have d1 := hX0.a.c1
  have d2 := hX0.a.c2
  have d3 := hX0.a.c3
  obtain ⟨g, hg⟩ : ∃ g, g = Vp.pick a := ⟨_, rfl⟩
  have HG := Lib.hid hg
  have g0 : (g == 0) = false := by rw [beq_eq_false_iff_ne, hg]; exact hp
  have hin := hok.pick_in hp
  rw [← hg] at hin
  have HIN := Lib.hid hin
  have HGL := Lib.hid hok.gens
  have HN3 := Lib.hid h.g.len
  have HPK := Lib.hid hp
  have HZ := Lib.hid hok.zero
  have HTOP := Lib.hid htop
  clear h hX0 hW0 hg hp hin hok htop
  go_enter Try.func13, Try.ntmps13
  go_wp2_with fail
  rw [← E0.out]
  clear E0
  refine (refPick_any (.slice A3 n3 c3) A1 n1 c1 A2 n2 c2 a W0 (H.out.l.below X0.out.below) (H.out.f.below X0.out.below) hr).mono ?_
  rintro e w1 ⟨rfl, hb1⟩
  rw [← HG.out]
  have X1 := Lib.hid (X0.out.step hb1)
  clear c0 d1 d2 d3 X0 hb1
  have c0 := X1.out.a.c0
  have d1 := X1.out.a.c1
  have d2 := X1.out.a.c2
  have d3 := X1.out.a.c3
  have HS := Lib.hid (fun (w' : World) (hb : Below w1.heap.size w1 w') => (show w'.cell? ⟨w.heap.size, 0, none⟩ = some (.int .i64 a.room) ∧ w'.cell? ⟨w.heap.size, 1, none⟩ = some (.slice A1 n1 c1) ∧ w'.cell? ⟨w.heap.size, 2, none⟩ = some (.slice A2 n2 c2) ∧ w'.cell? ⟨w.heap.size, 3, none⟩ = some (.slice A3 n3 c3) from ⟨keepcell hb c0, keepcell hb d1, keepcell hb d2, keepcell hb d3⟩))
  go_wp2_with fail
  refine wp_region_held_drew (S := fun w' => w'.cell? ⟨w.heap.size, 0, none⟩ = some (.int .i64 a.room) ∧ w'.cell? ⟨w.heap.size, 1, none⟩ = some (.slice A1 n1 c1) ∧ w'.cell? ⟨w.heap.size, 2, none⟩ = some (.slice A2 n2 c2) ∧ w'.cell? ⟨w.heap.size, 3, none⟩ = some (.slice A3 n3 c3)) (by kernel_rfl) ⟨c0, d1, d2, d3⟩ (fun hHeld => ?_)
  refine wpAnyH_takes (i := 0) (v := .pointer (some ⟨w.heap.size, 0, none⟩)) (some 13) rfl rfl (by kernel_rfl) (by kernel_rfl) (by kernel_rfl) (fun _ _ _ h => h) (Or.inl ⟨by rfl, (by intro w hSw; (try dsimp only at hSw); go_simp; first | done | with_reducible rfl)⟩) (by assumption) ?_
  simp only [Act.put, List.setIfInBounds_toArray, List.set_cons_zero, List.set_cons_succ]
  refine wpAnyH_takes (i := 1) (v := .int .i64 a.room) (some 14) rfl rfl (by kernel_rfl) (by kernel_rfl) (by kernel_rfl) (fun _ _ _ h => h) (Or.inl ⟨by rfl, (by intro w hSw; (try dsimp only at hSw); go_simp; first | done | with_reducible rfl)⟩) (by assumption) ?_
  simp only [Act.put, List.setIfInBounds_toArray, List.set_cons_zero, List.set_cons_succ]
  refine wpAnyH_takes (i := 3) (v := .pointer (some ⟨w.heap.size, 1, none⟩)) (some 16) rfl rfl (by kernel_rfl) (by kernel_rfl) (by kernel_rfl) (fun _ _ _ h => h) (Or.inl ⟨by rfl, (by intro w hSw; (try dsimp only at hSw); go_simp; first | done | with_reducible rfl)⟩) (by assumption) ?_
  simp only [Act.put, List.setIfInBounds_toArray, List.set_cons_zero, List.set_cons_succ]
  refine wpAnyH_takes (i := 4) (v := .slice A1 n1 c1) (some 17) rfl rfl (by kernel_rfl) (by kernel_rfl) (by kernel_rfl) (fun _ _ _ h => h) (Or.inl ⟨by rfl, (by intro w hSw; (try dsimp only at hSw); go_simp; first | done | with_reducible rfl)⟩) (by assumption) ?_
  simp only [Act.put, List.setIfInBounds_toArray, List.set_cons_zero, List.set_cons_succ]
  refine wpAnyH_takes (i := 6) (v := .int .i64 g) (some 19) rfl rfl (by kernel_rfl) (by kernel_rfl) (by kernel_rfl) (fun _ _ _ h => h) (Or.inl ⟨by rfl, (by intro w hSw; (try dsimp only at hSw); go_simp; first | done | with_reducible rfl)⟩) (by assumption) ?_
  simp only [Act.put, List.setIfInBounds_toArray, List.set_cons_zero, List.set_cons_succ]
  refine wpAnyH_takes (i := 9) (v := .pointer (some ⟨w.heap.size, 2, none⟩)) (some 22) rfl rfl (by kernel_rfl) (by kernel_rfl) (by kernel_rfl) (fun _ _ _ h => h) (Or.inl ⟨by rfl, (by intro w hSw; (try dsimp only at hSw); go_simp; first | done | with_reducible rfl)⟩) (by assumption) ?_
  simp only [Act.put, List.setIfInBounds_toArray, List.set_cons_zero, List.set_cons_succ]
  refine wpAnyH_takes (i := 10) (v := .slice A2 n2 c2) (some 23) rfl rfl (by kernel_rfl) (by kernel_rfl) (by kernel_rfl) (fun _ _ _ h => h) (Or.inl ⟨by rfl, (by intro w hSw; (try dsimp only at hSw); go_simp; first | done | with_reducible rfl)⟩) (by assumption) ?_
  simp only [Act.put, List.setIfInBounds_toArray, List.set_cons_zero, List.set_cons_succ]
  refine wpAnyH_takes (i := 11) (v := .int .i64 g) (some 24) rfl rfl (by kernel_rfl) (by kernel_rfl) (by kernel_rfl) (fun _ _ _ h => h) (Or.inl ⟨by rfl, (by intro w hSw; (try dsimp only at hSw); go_simp; first | done | with_reducible rfl)⟩) (by assumption) ?_
  simp only [Act.put, List.setIfInBounds_toArray, List.set_cons_zero, List.set_cons_succ]
  refine wpAnyH_takes (i := 14) (v := .pointer (some ⟨w.heap.size, 3, none⟩)) (some 27) rfl rfl (by kernel_rfl) (by kernel_rfl) (by kernel_rfl) (fun _ _ _ h => h) (Or.inl ⟨by rfl, (by intro w hSw; (try dsimp only at hSw); go_simp; first | done | with_reducible rfl)⟩) (by assumption) ?_
  simp only [Act.put, List.setIfInBounds_toArray, List.set_cons_zero, List.set_cons_succ]
  refine wpAnyH_takes (i := 15) (v := .slice A3 n3 c3) (some 28) rfl rfl (by kernel_rfl) (by kernel_rfl) (by kernel_rfl) (fun _ _ _ h => h) (Or.inl ⟨by rfl, (by intro w hSw; (try dsimp only at hSw); go_simp; first | done | with_reducible rfl)⟩) (by assumption) ?_
  simp only [Act.put, List.setIfInBounds_toArray, List.set_cons_zero, List.set_cons_succ]
  clear hHeld c0 d1 d2 d3
  have RL := Lib.hid (H.out.step (X1.out.below))
  refine wpAnyH_inv (fun n l act w' => ∃ (b2 b5 b7 b8 b12 b13 b16 b17 b18 b19 : Bool) (v7 v15 v18 v20 v21 v25 v26 v29 v30 : Value) (x7 : Nat), l = #[true, true, b2, true, true, b5, true, b7, b8, true, true, true, b12, b13, true, true, b16, b17, b18, b19] ∧ n + b2.toNat + b5.toNat + b7.toNat + b8.toNat + b12.toNat + b13.toNat + b16.toNat + b17.toNat + b18.toNat + b19.toNat = 10 ∧ act = (⟨#[Value.agg #[.int .i64 a.room, .slice A1 n1 c1, .slice A2 n2 c2, .slice A3 n3 c3], .pointer (some ⟨w.heap.size, 0, none⟩), .pointer (some ⟨w.heap.size + 1, 0, none⟩), .int .i64 0, .int .i64 0, .bool false, .int .i64 g, v7, Value.agg #[.int .i64 a.room, .slice A1 n1 c1, .slice A2 n2 c2, .slice A3 n3 c3], .int .i64 g, .int .i64 g, .bool false, undef, .pointer (some ⟨w.heap.size, 0, none⟩), .int .i64 a.room, v15, .pointer (some ⟨w.heap.size, 1, none⟩), .slice A1 n1 c1, v18, .int .i64 g, v20, v21, .pointer (some ⟨w.heap.size, 2, none⟩), .slice A2 n2 c2, .int .i64 g, v25, v26, .pointer (some ⟨w.heap.size, 3, none⟩), .slice A3 n3 c3, v29, v30, undef, undef, undef, undef, undef, undef, undef, undef, undef, undef, undef, undef, undef, undef, undef, undef, undef], []⟩ : Act) ∧ TI w1 w' g a.room n1 n3 a.live (Vp.without a.freed g) a.gens b2 b5 b7 b8 b12 b13 b16 b17 b18 b19 v7 v15 v18 v20 v21 v25 v26 v29 v30 x7) ?zero ?done ?step 10 _ _ _ ?start
  case start => exact ⟨false, false, false, false, false, false, false, false, false, false, undef, undef, undef, undef, undef, undef, undef, undef, undef, 0, rfl, rfl, rfl, ⟨(Below.refl _ _).drew, (fun e => by cases e), (fun e => by cases e), (fun e => by cases e), (fun e => by cases e), (fun e => by cases e), (fun e => by cases e), (fun e => by cases e), (fun e => by cases e), (fun e => by cases e), (fun e => by cases e), (fun e => by cases e), (fun e => by cases e), (fun e => by cases e), (fun e => by cases e), (fun e => by cases e), (fun e => by cases e)⟩⟩
  case zero =>
    rintro l act w' ⟨b2, b5, b7, b8, b12, b13, b16, b17, b18, b19, v7, v15, v18, v20, v21, v25, v26, v29, v30, x7, rfl, hn, rfl, hT⟩
    have key : (b2 && b5 && b7 && b8 && b12 && b13 && b16 && b17 && b18 && b19) = true := by
      simp only [Bool.and_eq_true]
      have tb2 := Bool.toNat_le b2; have tb5 := Bool.toNat_le b5; have tb7 := Bool.toNat_le b7; have tb8 := Bool.toNat_le b8; have tb12 := Bool.toNat_le b12; have tb13 := Bool.toNat_le b13; have tb16 := Bool.toNat_le b16; have tb17 := Bool.toNat_le b17; have tb18 := Bool.toNat_le b18; have tb19 := Bool.toNat_le b19
      refine ⟨⟨⟨⟨⟨⟨⟨⟨⟨?_, ?_⟩, ?_⟩, ?_⟩, ?_⟩, ?_⟩, ?_⟩, ?_⟩, ?_⟩, ?_⟩ <;> (apply Bool.toNat_eq_one.1; omega)
    simp only [Bool.and_eq_true] at key
    obtain ⟨⟨⟨⟨⟨⟨⟨⟨⟨rfl, rfl⟩, rfl⟩, rfl⟩, rfl⟩, rfl⟩, rfl⟩, rfl⟩, rfl⟩, rfl⟩ := key
    first | rfl | decide +kernel
  case done =>
    rintro n l act w' ⟨b2, b5, b7, b8, b12, b13, b16, b17, b18, b19, v7, v15, v18, v20, v21, v25, v26, v29, v30, x7, rfl, hn, rfl, hT⟩ hr0
    have key : (b2 && b5 && b7 && b8 && b12 && b13 && b16 && b17 && b18 && b19) = true := by
      clear hn hT
      revert b2 b5 b7 b8 b12 b13 b16 b17 b18 b19
      decide +kernel
    simp only [Bool.and_eq_true] at key
    obtain ⟨⟨⟨⟨⟨⟨⟨⟨⟨rfl, rfl⟩, rfl⟩, rfl⟩, rfl⟩, rfl⟩, rfl⟩, rfl⟩, rfl⟩, rfl⟩ := key
    clear hr0 hn
    obtain ⟨f3, B, hB1, h3, ⟨f1, k1, h1⟩, f2, nw, k2, h2⟩ := hT.e29 rfl
    obtain ⟨rfl, hx7⟩ := hT.e7 rfl
    have C := hT.e19 rfl
    have hbw := hT.below
    obtain ⟨B1, e1n, rfl, _⟩ := h1.row
    obtain ⟨B2, e2n, rfl, _⟩ := h2.row
    have hn3 : n3 = a.room + 1 := by rw [← HN3.out, HGL.out]
    obtain ⟨p, rfl⟩ : ∃ p : Nat, g = p := ⟨g.toNat, by have := HIN.out; omega⟩
    have hp1 : 1 ≤ p ∧ p < n3 := by have := HIN.out; omega
    have own3 : w'.ownsRow B 3 1 v29 n3 (a.gens.map (Value.int .i64)) ∧ f3 = v29.ownBlock := by
      rcases h3 with h3 | ⟨_, _, h0, _⟩
      · exact h3
      · omega
    obtain ⟨own3, hf3⟩ := own3
    obtain ⟨gb, cp, rfl, hgb, hgl⟩ := own3.form (by omega)
    obtain ⟨z, hz⟩ : ∃ z, z = a.gens.getD p 0 := ⟨_, rfl⟩
    have hzp : a.gens[p]? = some z := by rw [hz, List.getD_eq_getElem?_getD]; cases hq : a.gens[p]? with
      | none => rw [List.getElem?_eq_none_iff, HN3.out] at hq; omega
      | some y => rfl
    have hz0 : 0 ≤ z ∧ z ≤ t := by rw [hz]; exact ⟨HZ.out p (by rw [HN3.out]; exact hp1.2), HTOP.out p⟩
    have cz : w'.cell? ⟨gb, p, none⟩ = some (.int .i64 z) := by rw [own3.cellAt p (by omega), List.getElem?_map, hzp]; rfl
    have fz := own3.frozenAt p
    have hne : gb ≠ x7 := hT.e19b rfl (by omega) gb cp rfl
    have s1 : IntKind.i64.wrap (z + 1) = z + 1 := IntWalk.i64_in _ (by omega)
    have p3 : (p : Int) < (n3 : Int) := by omega
    have q3 := C.c3
    have k13 : ∀ j, f1 = some j → j ≠ gb := fun j e => by have := k1 j e; omega
    have k23 : ∀ j, f2 = some j → j ≠ gb := fun j e => by have := k2 j e; omega
    obtain ⟨W9, hW9⟩ : ∃ W9, W9 = (w'.setCell ⟨gb, p, none⟩ (.int .i64 (z + 1))).drew := ⟨_, rfl⟩
    have blk : ∀ j, j ≠ gb → W9.heap[j]? = w'.heap[j]? := fun j hj => by rw [hW9]; exact Below.heap_setCell w' ⟨gb, p, none⟩ _ j hj
    have K1 := Lib.hid (h1.keep (fun j e => blk j (k13 j e)))
    have K2 := Lib.hid (h2.keep (fun j e => blk j (k23 j e)))
    have K3 := Lib.hid (show W9.ownsRow B 3 1 (.slice (some ⟨gb, 0, none⟩) n3 cp) n3 ((a.gens.set p (z + 1)).map (Value.int .i64)) by
      rw [List.map_set, hW9]
      exact (own3.stored p (.int .i64 (z + 1))).1)
    have C9 := Lib.hid (C.keep (blk x7 (fun e => hne e.symm)))
    have B9 := Lib.hid (show Below w1.heap.size w1 W9 by rw [hW9]; exact (hbw.setCell (p := ⟨gb, p, none⟩) (by simp only; omega) _).drew)
    have HW9 := Lib.hid hW9
    have ZG := Lib.hid hz
    have P1 := Lib.hid hp1
    have N3 := Lib.hid hn3
    have cz9 : W9.cell? ⟨gb, p, none⟩ = some (.int .i64 (z + 1)) := by rw [K3.out.cellAt p (by omega), List.getElem?_map, List.getElem?_set_self (by rw [HN3.out]; exact hp1.2)]; rfl
    have CZ9 := Lib.hid cz9
    have hfar : gb ≠ w.heap.size + 1 ∧ x7 ≠ w.heap.size + 1 ∧ w.heap.size + 1 < w1.heap.size ∧ w1.heap.size ≤ B := by have := X1.out.size; omega
    have HFAR := Lib.hid hfar
    clear hfar
    clear hT h1 h2 h3 own3 hf3 blk k1 k2 k13 k23 C hbw hW9 hB1 hzp hz hn3 hp1 cz9
    dsimp only
    go_wp2_with fail
    go_region
    all_goals go_wp2_with fail
    rw [← HW9.out]
    clear cz fz q3
    have cz := CZ9.out
    have e0 := C9.out.c0
    have e1 := C9.out.c1
    have e2 := C9.out.c2
    have e3 := C9.out.c3
    have R9 := X1.out.r.step B9.out
    have r0 := R9.c0
    have r1 := R9.c1
    have r2 := R9.c2
    have r3 := R9.c3
    have rz := R9.z
    have q0 := rz 0
    have q1 := rz 1
    have q2 := rz 2
    have q3 := rz 3
    obtain ⟨W10, hW10⟩ : ∃ W10, W10 = put4 W9 (w.heap.size + 1) (.int .i64 a.room) (.slice B1 (n1 + 1) e1n) (.slice B2 nw e2n) (.slice (some ⟨gb, 0, none⟩) n3 cp) := ⟨_, rfl⟩
    have bk : ∀ j, w1.heap.size ≤ j → W10.heap[j]? = W9.heap[j]? := fun j hj => by rw [hW10]; exact put4_block _ _ _ _ _ _ _ (by have := HFAR.out; omega)
    have t3 : W10.cell? ⟨gb, p, none⟩ = some (.int .i64 (z + 1)) := (World.cell?_of_block (w := W9) (bk gb (by have := HFAR.out; omega))).trans cz
    have t4 : W10.cell? ⟨x7, 3, none⟩ = some (.slice (some ⟨gb, 0, none⟩) n3 cp) := (World.cell?_of_block (w := W9) (bk x7 hx7)).trans e3
    have T := R9.put (.int .i64 a.room) (.slice B1 (n1 + 1) e1n) (.slice B2 nw e2n) (.slice (some ⟨gb, 0, none⟩) n3 cp)
    rw [← hW10] at T
    have g1 := Lib.hid (K1.out.keep (fun j e => bk j ((K1.out.lt j e).1)))
    have g2 := Lib.hid (K2.out.keep (fun j e => bk j ((K2.out.lt j e).1)))
    have g3 := Lib.hid (own_keep K3.out (fun j e => bk j (by have := (K3.out.lt j e).1; have := HFAR.out; omega)))
    have hb10 : Below w.heap.size w W10 := by rw [hW10]; exact below_put4 ((X1.out.below).trans (B9.out.mono X1.out.below.size)) (by omega) _ _ _ _
    have HM := Lib.hid (show MadeX P (Vp.take a).1 [.int .i64 (Vp.take a).2.1, .int .i64 (Vp.take a).2.2.1, .bool (Vp.take a).2.2.2] w (.returned (.tuple (#[.agg #[.int .i64 a.room, .slice B1 (n1 + 1) e1n, .slice B2 nw e2n, .slice (some ⟨gb, 0, none⟩) n3 cp]] ++ [Value.int .i64 p, .int .i64 (z + 1), .bool true].toArray))) W10.drew by
      have hg : Vp.gen a p = z := by
        rw [ZG.out, Vp.gen, if_neg (by rw [HN3.out]; have := P1.out; omega)]; rfl
      have hpk : Vp.take a = (⟨a.room, a.live ++ [(p : Int)], Vp.without a.freed p, a.gens.set p (z + 1)⟩, (p : Int), z + 1, true) := by
        unfold Vp.take
        rw [if_neg HPK.out, ← HG.out, hg]; rfl
      rw [hpk]
      obtain ⟨y1, u1, k1, r1', p1'⟩ := g1.out.row
      obtain ⟨y2, u2, k2, r2', p2'⟩ := g2.out.row
      obtain ⟨y3, u3, k3, r3', p3'⟩ := Row.of_own' g3.out
      injection k1 with k1 _ k1'
      injection k2 with k2 _ k2'
      injection k3 with k3 _ k3'
      subst k1 k1' k2 k2' k3 k3'
      have hbs := X1.out.below.size
      refine ⟨_, _, _, _, _, _, _, _, _, rfl, ⟨r1'.drew, r2'.drew, r3'.drew, p1' P (fun b hb => hB b (by omega)), p2' P (fun b hb => hB b (by omega)), p3'.fromP (fun b hb => hB b (by have := HFAR.out; omega)) _⟩, hb10.drew⟩)
    have k0 := T.c0
    have k1 := T.c1
    have k2 := T.c2
    have k3 := T.c3
    have HW10 := Lib.hid hW10
    unfold put4 at hW10
    rw [hW10] at t3 t4 k0 k1 k2 k3
    rw [hW10] at HM
    clear R9 rz HW9 T bk g1 g2 g3 hb10 hW10 HW10
    go_region
    all_goals go_wp2_with fail
    refine bodyPost_ret (v := .tuple #[.agg #[.int .i64 a.room, .slice B1 (n1 + 1) e1n, .slice B2 nw e2n, .slice (some ⟨gb, 0, none⟩) n3 cp], .int .i64 p, .int .i64 (z + 1), .bool true]) ?_ rfl ?_
    · simp [results, Try.results13, go_sem, k0, k1, k2, k3]
    exact HM.out
  case step =>
    rintro n l act w' ⟨b2, b5, b7, b8, b12, b13, b16, b17, b18, b19, v7, v15, v18, v20, v21, v25, v26, v29, v30, x7, rfl, hn, rfl, hT⟩ i hi
    have key : (fun i : Nat => (i == 2 && !b2) || (i == 5 && !b5 && b2) || (i == 7 && !b7) || (i == 8 && !b8 && b5 && b7) || (i == 12 && !b12 && b8) || (i == 13 && !b13) || (i == 16 && !b16 && b12 && b13) || (i == 17 && !b17 && b8 && b12 && b16) || (i == 18 && !b18) || (i == 19 && !b19 && b8 && b12 && b16 && b17 && b18)) i = true := by
      refine (List.all_eq_true (p := fun i : Nat => (i == 2 && !b2) || (i == 5 && !b5 && b2) || (i == 7 && !b7) || (i == 8 && !b8 && b5 && b7) || (i == 12 && !b12 && b8) || (i == 13 && !b13) || (i == 16 && !b16 && b12 && b13) || (i == 17 && !b17 && b8 && b12 && b16) || (i == 18 && !b18) || (i == 19 && !b19 && b8 && b12 && b16 && b17 && b18))).1 ?_ i hi
      clear hi hn hT
      revert b2 b5 b7 b8 b12 b13 b16 b17 b18 b19
      decide +kernel
    clear hi
    simp only [Bool.or_eq_true, Bool.and_eq_true, beq_iff_eq, Bool.not_eq_true'] at key
    rcases key with ((((((((⟨rfl, rfl⟩ | ⟨⟨rfl, rfl⟩, rfl⟩) | ⟨rfl, rfl⟩) | ⟨⟨⟨rfl, rfl⟩, rfl⟩, rfl⟩) | ⟨⟨rfl, rfl⟩, rfl⟩) | ⟨rfl, rfl⟩) | ⟨⟨⟨rfl, rfl⟩, rfl⟩, rfl⟩) | ⟨⟨⟨⟨rfl, rfl⟩, rfl⟩, rfl⟩, rfl⟩) | ⟨rfl, rfl⟩) | ⟨⟨⟨⟨⟨⟨rfl, rfl⟩, rfl⟩, rfl⟩, rfl⟩, rfl⟩, rfl⟩
    · refine wpOp_step rfl (fun K hK => ?_)
      go_simp
      have T := TI.s2 (u15 := .slice (some ⟨w'.heap.size, 0, none⟩) 0 0) (hT.step (below_new w' (.cells #[] 3))) ⟨_, rfl⟩
      exact hK _ _ ⟨HS.out _ T.below, true, b5, b7, b8, b12, b13, b16, b17, b18, b19, v7, _, v18, v20, v21, v25, v26, v29, v30, x7, rfl, (by simp only [Bool.toNat_false, Bool.toNat_true] at hn ⊢; omega), rfl, T⟩
    · refine wpOp_step rfl (fun K hK => ?_)
      obtain ⟨ad, rfl⟩ := hT.e15 rfl rfl
      refine step_append_fresh (by rfl) (.tmp 15) (.tmp 17) (by rfl) ad (by rfl) A1 n1 c1 a.live (by rfl) (RL.out.l.below hT.below) (by omega) ?_
      intro foot u w2 hf hb
      have T := TI.s5 (hT.step hb) ⟨_, hf.mono hT.below.size⟩
      exact hK _ _ ⟨HS.out _ T.below, true, true, b7, b8, b12, b13, b16, b17, b18, b19, v7, _, u, v20, v21, v25, v26, v29, v30, x7, rfl, (by simp only [Bool.toNat_false, Bool.toNat_true] at hn ⊢; omega), rfl, T⟩
    · refine wpOp_step rfl (fun K hK => ?_)
      go_simp
      have T := TI.s7 (u20 := .slice (some ⟨w'.heap.size, 0, none⟩) 1 1) (hT.step (below_new w' (.cells #[.int .i64 g] 3))) ⟨w'.heap.size, rfl, by rw [World.cell?_alloc_at _ _ _ _ rfl]; rfl⟩
      exact hK _ _ ⟨HS.out _ T.below, b2, b5, true, b8, b12, b13, b16, b17, b18, b19, v7, v15, v18, _, v21, v25, v26, v29, v30, x7, rfl, (by simp only [Bool.toNat_false, Bool.toNat_true] at hn ⊢; omega), rfl, T⟩
    · refine wpOp_step rfl (fun K hK => ?_)
      obtain ⟨foot, hf⟩ := hT.e18 rfl rfl
      obtain ⟨y, rfl, hy⟩ := hT.e20 rfl rfl
      refine step_append_fr (by rfl) (.tmp 18) (.tmp 20) (by rfl) w1.heap.size foot v18 n1 a.live (by rfl) hf (some ⟨y, 0, none⟩) 1 1 [g] (by rfl) (Row.one hy) (by omega) hT.below.size ?_
      intro foot' u w2 hf' hg
      have T := TI.s8 hT hf hg ⟨_, hf'⟩
      exact hK _ _ ⟨HS.out _ T.below, b2, true, true, true, b12, b13, b16, b17, b18, b19, v7, v15, v18, _, u, v25, v26, v29, v30, x7, rfl, (by simp only [Bool.toNat_false, Bool.toNat_true] at hn ⊢; omega), rfl, T⟩
    · refine wpOp_step rfl (fun K hK => ?_)
      go_simp
      have HK := Lib.hid hK
      clear hK
      go_wp2_with (go_at_call 23; refine (without_any A2 n2 c2 a.freed g w' (RL.out.f.below hT.below) hn2).mono ?_; rintro e w2 ⟨u, q, rfl, ho, hb⟩)
      have T := TI.s12 (hT.step hb) ⟨_, q, Fr.mono (.inl ⟨ho, rfl⟩) hT.below.size⟩
      exact HK.out _ _ ⟨HS.out _ T.below, b2, b5, b7, true, true, b13, b16, b17, b18, b19, v7, v15, v18, v20, v21, u, v26, v29, v30, x7, rfl, (by simp only [Bool.toNat_false, Bool.toNat_true] at hn ⊢; omega), rfl, T⟩
    · refine wpOp_step rfl (fun K hK => ?_)
      go_simp
      have T := TI.s13 (u26 := .slice (some ⟨w'.heap.size, 0, none⟩) 0 0) (hT.step (below_new w' (.cells #[] 3))) ⟨_, rfl⟩
      exact hK _ _ ⟨HS.out _ T.below, b2, b5, b7, b8, b12, true, b16, b17, b18, b19, v7, v15, v18, v20, v21, v25, _, v29, v30, x7, rfl, (by simp only [Bool.toNat_false, Bool.toNat_true] at hn ⊢; omega), rfl, T⟩
    · refine wpOp_step rfl (fun K hK => ?_)
      obtain ⟨ad, rfl⟩ := hT.e26 rfl rfl
      refine step_append_fresh (by rfl) (.tmp 26) (.tmp 28) (by rfl) ad (by rfl) A3 n3 c3 a.gens (by rfl) (RL.out.g.below hT.below) (by omega) ?_
      intro foot u w2 hf hb
      have T := TI.s16 hT hb hf
      exact hK _ _ ⟨HS.out _ T.below, b2, b5, b7, b8, true, true, true, b17, b18, b19, v7, v15, v18, v20, v21, v25, _, u, v30, x7, rfl, (by simp only [Bool.toNat_false, Bool.toNat_true] at hn ⊢; omega), rfl, T⟩
    · refine wpOp_step rfl (fun K hK => ?_)
      obtain ⟨f1, h1⟩ := hT.e21 rfl
      obtain ⟨f2, nw, h2⟩ := hT.e25 rfl
      obtain ⟨f3, B0, _, h3, _⟩ := hT.e29 rfl
      obtain ⟨B1, e1, rfl, _⟩ := h1.row
      obtain ⟨B2, e2, rfl, _⟩ := h2.row
      obtain ⟨B3, e3, rfl, _⟩ := h3.row
      clear h1 h2 h3
      go_simp
      have T := TI.s17 hT rfl
      exact hK _ _ ⟨HS.out _ T.below, b2, b5, b7, true, true, b13, true, true, b18, b19, v7, v15, v18, v20, _, _, v26, _, _, x7, rfl, (by simp only [Bool.toNat_false, Bool.toNat_true] at hn ⊢; omega), rfl, T⟩
    · refine wpOp_step rfl (fun K hK => ?_)
      go_simp
      have T := TI.s18 (u7 := .pointer (some ⟨w'.heap.size, 0, none⟩)) (y7 := w'.heap.size) (hT.step (below_new w' (.cells #[.int .i64 0, .slice none 0 0, .slice none 0 0, .slice none 0 0] 29))) rfl hT.below.size ⟨_, heap_alloc_new w' _⟩ (Cel8.new w' _ _ _ _ _)
      exact hK _ _ ⟨HS.out _ T.below, b2, b5, b7, b8, b12, b13, b16, b17, true, b19, _, v15, v18, v20, v21, v25, v26, v29, v30, w'.heap.size, rfl, (by simp only [Bool.toNat_false, Bool.toNat_true] at hn ⊢; omega), rfl, T⟩
    · refine wpOp_step rfl (fun K hK => ?_)
      obtain ⟨rfl, _⟩ := hT.e7 rfl
      have e30 := hT.e30 rfl
      obtain ⟨f1, h1⟩ := hT.e21 rfl
      obtain ⟨f2, nw, h2⟩ := hT.e25 rfl
      obtain ⟨f3, B0, _, h3, _⟩ := hT.e29 rfl
      obtain ⟨B1, e1, rfl, _⟩ := h1.row
      obtain ⟨B2, e2, rfl, _⟩ := h2.row
      obtain ⟨B3, e3, rfl, _⟩ := h3.row
      subst e30
      obtain ⟨_, hl⟩ := hT.e7t rfl rfl
      have q0 := hl.c0
      have q1 := hl.c1
      have q2 := hl.c2
      have q3 := hl.c3
      have z0 := hl.z 0
      have z1 := hl.z 1
      have z2 := hl.z 2
      have z3 := hl.z 3
      clear h1 h2 h3 hl
      go_simp
      have T := TI.s19 hT
      exact hK _ _ ⟨HS.out _ T.below, b2, b5, b7, true, true, b13, true, true, true, true, _, v15, v18, v20, _, _, v26, _, _, x7, rfl, (by simp only [Bool.toNat_false, Bool.toNat_true] at hn ⊢; omega), rfl, T⟩
end Go.Proofs.Ytncmliojndgoiaa

