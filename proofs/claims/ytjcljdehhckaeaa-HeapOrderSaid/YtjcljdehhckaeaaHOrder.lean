/- HeapOrder: Compare is an order of timers, and 0 just of the same: the call answers true and changes nothing that was there; for every input. -/
import Derived.Test.YtjcljdehhckaeaaHShown
import Derived.Test.YtjcljdehhckaeaaHFrame
import Derived.Test.YtjcljdehhckaeaaHEq
namespace Go.Proofs.Ytjcljdehhckaeaa.heapOrder
open Go.ChangeShapes Go.WideShapes Go.ChangeAt Go.RowKit
set_option linter.unusedVariables false

theorem compare_val (x y : Hp.Tm) (r : Int) (hr : r = Hp.cmp x y) (W : World) : Calls Try.prog 19 #[.agg #[.int .i64 x.1, .int .i64 x.2.1, .int .i64 x.2.2], .agg #[.int .i64 y.1, .int .i64 y.2.1, .int .i64 y.2.2]] W fun e w' => e = .returned (.int .i64 r) ∧ Below W.heap.size W w' := by
  subst hr
  refine (compare_any x y W).mono ?_
  rintro e w' ⟨rfl, hb⟩
  exact ⟨rfl, hb.below⟩
/-- Three boxes. -/
structure B3 (w W : World) (x y z : Hp.Tm) : Prop where
  a0 : W.cell? ⟨w.heap.size, 0, none⟩ = some (.int .i64 x.1)
  a1 : W.cell? ⟨w.heap.size, 1, none⟩ = some (.int .i64 x.2.1)
  a2 : W.cell? ⟨w.heap.size, 2, none⟩ = some (.int .i64 x.2.2)
  b0 : W.cell? ⟨w.heap.size + 1, 0, none⟩ = some (.int .i64 y.1)
  b1 : W.cell? ⟨w.heap.size + 1, 1, none⟩ = some (.int .i64 y.2.1)
  b2 : W.cell? ⟨w.heap.size + 1, 2, none⟩ = some (.int .i64 y.2.2)
  c0 : W.cell? ⟨w.heap.size + 2, 0, none⟩ = some (.int .i64 z.1)
  c1 : W.cell? ⟨w.heap.size + 2, 1, none⟩ = some (.int .i64 z.2.1)
  c2 : W.cell? ⟨w.heap.size + 2, 2, none⟩ = some (.int .i64 z.2.2)
  below : Below w.heap.size w W
theorem B3.step {w W W' : World} {x y z : Hp.Tm} (h : B3 w W x y z) (hb : Below W.heap.size W W') : B3 w W' x y z :=
  ⟨keepcell hb h.a0, keepcell hb h.a1, keepcell hb h.a2, keepcell hb h.b0, keepcell hb h.b1, keepcell hb h.b2, keepcell hb h.c0, keepcell hb h.c1, keepcell hb h.c2, h.below.trans (hb.mono h.below.size)⟩
theorem B3.start (w : World) (x y z : Hp.Tm) (T : TypeId) : ∃ W, W = ((w.alloc (.cells #[.int .i64 x.1, .int .i64 x.2.1, .int .i64 x.2.2] T)).alloc (.cells #[.int .i64 y.1, .int .i64 y.2.1, .int .i64 y.2.2] T)).alloc (.cells #[.int .i64 z.1, .int .i64 z.2.1, .int .i64 z.2.2] T) ∧ B3 w W x y z := by
  obtain ⟨W1, e1, a0, a1, a2, _, h1⟩ := new3v w (.int .i64 x.1) (.int .i64 x.2.1) (.int .i64 x.2.2) T
  obtain ⟨W2, e2, b0, b1, b2, _, h2⟩ := new3v W1 (.int .i64 y.1) (.int .i64 y.2.1) (.int .i64 y.2.2) T
  obtain ⟨W3, e3, c0, c1, c2, _, h3⟩ := new3v W2 (.int .i64 z.1) (.int .i64 z.2.1) (.int .i64 z.2.2) T
  have s1 : W1.heap.size = w.heap.size + 1 := by rw [e1]; simp
  have s2 : W2.heap.size = w.heap.size + 2 := by rw [e2]; simp [s1]
  refine ⟨W3, by rw [e3, e2, e1], ?_⟩
  rw [s1] at b0 b1 b2
  rw [s2] at c0 c1 c2
  have h12 := h1.trans (h2.mono h1.size)
  exact ⟨keepcell h3 (keepcell h2 a0), keepcell h3 (keepcell h2 a1), keepcell h3 (keepcell h2 a2), keepcell h3 b0, keepcell h3 b1, keepcell h3 b2, c0, c1, c2, h12.trans (h3.mono h12.size)⟩
set_option maxRecDepth 100000 in
set_option maxHeartbeats 2000000 in
theorem walk (x1 x2 x3 y1 y2 y3 z1 z2 z3 : Int) (w : World) :
    Calls Try.prog 5 #[.agg #[.int .i64 x1, .int .i64 x2, .int .i64 x3], .agg #[.int .i64 y1, .int .i64 y2, .int .i64 y3], .agg #[.int .i64 z1, .int .i64 z2, .int .i64 z3]] w fun e w' => e = .returned (.bool true) ∧ Below w.heap.size w w' := by
  obtain ⟨W0, hW0, hX0⟩ := B3.start w (x1, x2, x3) (y1, y2, y3) (z1, z2, z3) 30
  simp only at hW0
  have E0 := Lib.hid hW0
  have X0 := Lib.hid hX0
  clear hW0 hX0
  obtain ⟨r, hr⟩ : ∃ r, r = Hp.cmp (x1, x2, x3) (y1, y2, y3) := ⟨_, rfl⟩
  obtain ⟨s, hs⟩ : ∃ s, s = Hp.cmp (y1, y2, y3) (z1, z2, z3) := ⟨_, rfl⟩
  obtain ⟨t, ht⟩ : ∃ t, t = Hp.cmp (x1, x2, x3) (z1, z2, z3) := ⟨_, rfl⟩
  obtain ⟨q, hq⟩ : ∃ q, q = Hp.cmp (y1, y2, y3) (x1, x2, x3) := ⟨_, rfl⟩
  have HA := Lib.hid (fun W => compare_val (x1, x2, x3) (y1, y2, y3) _ hr W)
  have HB := Lib.hid (fun W => compare_val (y1, y2, y3) (z1, z2, z3) _ hs W)
  have HC := Lib.hid (fun W => compare_val (x1, x2, x3) (z1, z2, z3) _ ht W)
  have HD := Lib.hid (fun W => compare_val (y1, y2, y3) (x1, x2, x3) _ hq W)
  have hb1 := Hp.cmp_bounds (x1, x2, x3) (y1, y2, y3)
  rw [← hr] at hb1
  have hqr : r = -q := by rw [hr, hq]; exact Hp.cmp_anti _ _
  have nw : IntKind.i64.wrap (-q) = r := by rw [hqr]; exact IntWalk.i64_in _ (by omega)
  have hrr : (r == r) = true := by simp
  have l1 : -1 ≤ r := hb1.1
  have l2 : r ≤ 1 := hb1.2
  have he : (r = 0) ↔ ((x1, x2, x3) : Hp.Tm) = (y1, y2, y3) := by rw [hr]; exact Hp.cmp_zero
  have htr : 0 < r ∨ 0 < s ∨ t ≤ 0 := by
    by_cases h1 : 0 < r
    · exact .inl h1
    · by_cases h2 : 0 < s
      · exact .inr (.inl h2)
      · refine .inr (.inr ?_)
        rw [ht]
        exact Hp.cmp_le.2 (Hp.le_trans (b := (y1, y2, y3)) (Hp.cmp_le.1 (by omega)) (Hp.cmp_le.1 (by omega)))
  have hE : ∀ W, (binOp .eql 30 (.agg #[.int .i64 x1, .int .i64 x2, .int .i64 x3]) (.agg #[.int .i64 y1, .int .i64 y2, .int .i64 y3])).run Try.prog W = .ok (.bool (r == 0)) W := fun W => by
    rw [eql_tm]
    congr 2
    rw [Bool.eq_iff_iff]
    simp only [decide_eq_true_eq, beq_iff_eq]
    exact he.symm
  have hbb : ((r == 0) == (r == 0)) = true := by simp
  clear hr hs ht hq hb1 he hqr
  have a0 := X0.out.a0
  have a1 := X0.out.a1
  have a2 := X0.out.a2
  have b0 := X0.out.b0
  have b1 := X0.out.b1
  have b2 := X0.out.b2
  have c0 := X0.out.c0
  have c1 := X0.out.c1
  have c2 := X0.out.c2
  simp only at a0 a1 a2 b0 b1 b2 c0 c1 c2
  go_enter Try.func5, Try.ntmps5
  go_wp2_with fail
  rw [← E0.out]
  refine (shown_any _).mono ?_
  rintro e w1 ⟨rfl, hb⟩
  have X1 := Lib.hid (X0.out.step hb)
  clear hb a0 a1 a2 b0 b1 b2 c0 c1 c2
  have a0 := X1.out.a0
  have a1 := X1.out.a1
  have a2 := X1.out.a2
  have b0 := X1.out.b0
  have b1 := X1.out.b1
  have b2 := X1.out.b2
  have c0 := X1.out.c0
  have c1 := X1.out.c1
  have c2 := X1.out.c2
  simp only at a0 a1 a2 b0 b1 b2 c0 c1 c2
  go_wp2_with fail
  refine (HA.out _).mono ?_
  rintro e w2 ⟨rfl, hb⟩
  have X2 := Lib.hid (X1.out.step hb)
  clear hb a0 a1 a2 b0 b1 b2 c0 c1 c2
  have a0 := X2.out.a0
  have a1 := X2.out.a1
  have a2 := X2.out.a2
  have b0 := X2.out.b0
  have b1 := X2.out.b1
  have b2 := X2.out.b2
  have c0 := X2.out.c0
  have c1 := X2.out.c1
  have c2 := X2.out.c2
  simp only at a0 a1 a2 b0 b1 b2 c0 c1 c2
  go_wp2_with fail
  refine (HB.out _).mono ?_
  rintro e w3 ⟨rfl, hb⟩
  have X3 := Lib.hid (X2.out.step hb)
  clear hb a0 a1 a2 b0 b1 b2 c0 c1 c2
  have a0 := X3.out.a0
  have a1 := X3.out.a1
  have a2 := X3.out.a2
  have b0 := X3.out.b0
  have b1 := X3.out.b1
  have b2 := X3.out.b2
  have c0 := X3.out.c0
  have c1 := X3.out.c1
  have c2 := X3.out.c2
  simp only at a0 a1 a2 b0 b1 b2 c0 c1 c2
  go_wp2_with fail
  refine (HC.out _).mono ?_
  rintro e w4 ⟨rfl, hb⟩
  have X4 := Lib.hid (X3.out.step hb)
  clear hb a0 a1 a2 b0 b1 b2 c0 c1 c2
  have a0 := X4.out.a0
  have a1 := X4.out.a1
  have a2 := X4.out.a2
  have b0 := X4.out.b0
  have b1 := X4.out.b1
  have b2 := X4.out.b2
  have c0 := X4.out.c0
  have c1 := X4.out.c1
  have c2 := X4.out.c2
  simp only at a0 a1 a2 b0 b1 b2 c0 c1 c2
  clear X0 X1 X2 X3 HA HB HC E0
  rcases htr with h | h | h
  · skip
    go_wp2_with fail
    refine (HD.out _).mono ?_
    rintro e w5 ⟨rfl, hb⟩
    have X5 := Lib.hid (X4.out.step hb)
    clear hb a0 a1 a2 b0 b1 b2 c0 c1 c2
    have a0 := X5.out.a0
    have a1 := X5.out.a1
    have a2 := X5.out.a2
    have b0 := X5.out.b0
    have b1 := X5.out.b1
    have b2 := X5.out.b2
    have c0 := X5.out.c0
    have c1 := X5.out.c1
    have c2 := X5.out.c2
    simp only at a0 a1 a2 b0 b1 b2 c0 c1 c2
    go_wp2_with fail
    go_ret
    exact ⟨rfl, X5.out.below⟩
  · by_cases h' : 0 < r
    · skip
      go_wp2_with fail
      refine (HD.out _).mono ?_
      rintro e w5 ⟨rfl, hb⟩
      have X5 := Lib.hid (X4.out.step hb)
      clear hb a0 a1 a2 b0 b1 b2 c0 c1 c2
      have a0 := X5.out.a0
      have a1 := X5.out.a1
      have a2 := X5.out.a2
      have b0 := X5.out.b0
      have b1 := X5.out.b1
      have b2 := X5.out.b2
      have c0 := X5.out.c0
      have c1 := X5.out.c1
      have c2 := X5.out.c2
      simp only at a0 a1 a2 b0 b1 b2 c0 c1 c2
      go_wp2_with fail
      go_ret
      exact ⟨rfl, X5.out.below⟩
    · skip
      go_wp2_with fail
      refine (HD.out _).mono ?_
      rintro e w5 ⟨rfl, hb⟩
      have X5 := Lib.hid (X4.out.step hb)
      clear hb a0 a1 a2 b0 b1 b2 c0 c1 c2
      have a0 := X5.out.a0
      have a1 := X5.out.a1
      have a2 := X5.out.a2
      have b0 := X5.out.b0
      have b1 := X5.out.b1
      have b2 := X5.out.b2
      have c0 := X5.out.c0
      have c1 := X5.out.c1
      have c2 := X5.out.c2
      simp only at a0 a1 a2 b0 b1 b2 c0 c1 c2
      go_wp2_with fail
      go_ret
      exact ⟨rfl, X5.out.below⟩
  · by_cases h' : 0 < r
    · skip
      go_wp2_with fail
      refine (HD.out _).mono ?_
      rintro e w5 ⟨rfl, hb⟩
      have X5 := Lib.hid (X4.out.step hb)
      clear hb a0 a1 a2 b0 b1 b2 c0 c1 c2
      have a0 := X5.out.a0
      have a1 := X5.out.a1
      have a2 := X5.out.a2
      have b0 := X5.out.b0
      have b1 := X5.out.b1
      have b2 := X5.out.b2
      have c0 := X5.out.c0
      have c1 := X5.out.c1
      have c2 := X5.out.c2
      simp only at a0 a1 a2 b0 b1 b2 c0 c1 c2
      go_wp2_with fail
      go_ret
      exact ⟨rfl, X5.out.below⟩
    · by_cases h'' : 0 < s
      · skip
        go_wp2_with fail
        refine (HD.out _).mono ?_
        rintro e w5 ⟨rfl, hb⟩
        have X5 := Lib.hid (X4.out.step hb)
        clear hb a0 a1 a2 b0 b1 b2 c0 c1 c2
        have a0 := X5.out.a0
        have a1 := X5.out.a1
        have a2 := X5.out.a2
        have b0 := X5.out.b0
        have b1 := X5.out.b1
        have b2 := X5.out.b2
        have c0 := X5.out.c0
        have c1 := X5.out.c1
        have c2 := X5.out.c2
        simp only at a0 a1 a2 b0 b1 b2 c0 c1 c2
        go_wp2_with fail
        go_ret
        exact ⟨rfl, X5.out.below⟩
      · skip
        go_wp2_with fail
        refine (HD.out _).mono ?_
        rintro e w5 ⟨rfl, hb⟩
        have X5 := Lib.hid (X4.out.step hb)
        clear hb a0 a1 a2 b0 b1 b2 c0 c1 c2
        have a0 := X5.out.a0
        have a1 := X5.out.a1
        have a2 := X5.out.a2
        have b0 := X5.out.b0
        have b1 := X5.out.b1
        have b2 := X5.out.b2
        have c0 := X5.out.c0
        have c1 := X5.out.c1
        have c2 := X5.out.c2
        simp only at a0 a1 a2 b0 b1 b2 c0 c1 c2
        go_wp2_with fail
        go_ret
        exact ⟨rfl, X5.out.below⟩
set_option maxRecDepth 100000 in
theorem lifted (os : Os) (started : os.Started) (H : Type) (enc : TypeId × Value → H) :
    ReturnsInHanded {} Try.checked os 5 .any (Rows.heapOrderSpec.pre6 enc Try.prog Try.f5 Rows.heapOrderRow.domain false) (Rows.heapOrderSpec.post enc Try.prog Try.f5 false true false false) := by
  refine returnsInHanded_of_change (C := Try.checked) own started (by kernel_rfl) Try.func5
    (ChangeSpec.witness6 (enc := enc) (C := Try.checked) false ⟨#[], #[.agg #[.int .i64 0, .int .i64 0, .int .i64 0], .agg #[.int .i64 0, .int .i64 0, .int .i64 0], .agg #[.int .i64 0, .int .i64 0, .int .i64 0]], []⟩ 8 (by kernel_rfl) (by kernel_rfl) (by kernel_rfl) (by kernel_rfl)) ?_
  intro W base args ds gs before hval0 hW hcnd _
  have hval : ∀ (j : Nat) t v, Try.f5.params[j]? = some t → args[j]? = some v → Value.okWide Try.prog W .any base t v := hval0
  have hW' := hW
  obtain ⟨p, q, hA0, hV, rfl, hfz, hnd⟩ := hW
  have hA : DataW.TrodAll enc Try.prog W 0 (fun _ => true) true Try.f5.params.toList args.toList ds p := hA0
  rw [Try.params5] at hA hval
  obtain ⟨v0, vs0, d0, ds0, p0, q0, hargs, rfl, rfl, h0, r0⟩ := trodAll_cons hA
  obtain ⟨v1, vs1, d1, ds1, p1, q1, rfl, rfl, rfl, h1, r1⟩ := trodAll_cons r0
  obtain ⟨v2, vs2, d2, ds2, p2, q2, rfl, rfl, rfl, h2, r2⟩ := trodAll_cons r1
  obtain ⟨rfl, rfl, rfl⟩ := trodAll_nil r2
  obtain rfl : args = #[v0, v1, v2] := by cases args; simp_all
  obtain ⟨rfl, rfl⟩ := trodVars_none hV
  have k0 := h0
  have lt0 : ∀ x ∈ p0, x.block < W.heap.size := by obtain ⟨m, hm⟩ := k0; exact DataW.trod_lt m _ _ _ hm
  obtain ⟨x0, y0, u0, rfl⟩ := open_timer (hval 0 30 v0 rfl rfl) h0
  have k1 := h1
  have lt1 : ∀ x ∈ p1, x.block < W.heap.size := by obtain ⟨m, hm⟩ := k1; exact DataW.trod_lt m _ _ _ hm
  obtain ⟨x1, y1, u1, rfl⟩ := open_timer (hval 1 30 v1 rfl rfl) h1
  have k2 := h2
  have lt2 : ∀ x ∈ p2, x.block < W.heap.size := by obtain ⟨m, hm⟩ := k2; exact DataW.trod_lt m _ _ _ hm
  obtain ⟨x2, y2, u2, rfl⟩ := open_timer (hval 2 30 v2 rfl rfl) h2
  clear hA0 hval0
  refine (walk x0 y0 u0 x1 y1 u1 x2 y2 u2 W ).mono fun e W' ⟨he, bel⟩ => ?_
  subst he
  exact ⟨_, rfl, _, _, _, [], _, [], hW', trodAll_mk1 (shut_bool Try.underlying4 _), (trodAll_cons_mk (Below.trod laidOut (by kernel_rfl) (of_decide_eq_true (by kernel_rfl)) k0 bel lt0) (trodAll_cons_mk (Below.trod laidOut (by kernel_rfl) (of_decide_eq_true (by kernel_rfl)) k1 bel lt1) (trodAll_cons_mk (Below.trod laidOut (by kernel_rfl) (of_decide_eq_true (by kernel_rfl)) k2 bel lt2) trodAll_mk0))), rfl, bel.frame _, fun h => by cases h⟩
theorem over : Rows.heapOrderRow.holds Try.pinned (OpenSpec.ofChange Rows.heapOrderSpec) :=
  OpenClaim.holds_of_wide 5 Try.f5 rfl rfl rfl rfl rfl rfl rfl ⟨rfl, rfl, rfl, rfl, rfl⟩ rfl rfl rfl rfl rfl (by kernel_rfl) Try.func5 (by kernel_rfl)
    (of_decide_eq_true (by kernel_rfl)) (by unfold Func.isWrapper; first | (rw [if_pos (by decide +kernel)]; kernel_rfl) | (rw [if_neg (by decide +kernel)]; exact ⟨rfl, rfl⟩))
    (fun os started H enc _ => lifted os started H enc)
theorem proved : Rows.HeapOrderSaid := over
end Go.Proofs.Ytjcljdehhckaeaa.heapOrder

