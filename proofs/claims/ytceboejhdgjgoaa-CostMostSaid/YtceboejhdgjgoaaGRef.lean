/- Costs in memory; the document's Add, Join, May, and the law's same, by their contracts. -/
import Derived.Test.YtceboejhdgjgoaaKeep
import Derived.Test.YtceboejhdgjgoaaGPlain
namespace Go.Proofs.Ytceboejhdgjgoaa
open Go.RowKit
set_option linter.unusedVariables false

def cv (c : Gp.Cst) : Value := .agg #[.int .i64 c.1, .int .i64 c.2]
/-- What a call leaves that tells a cost. -/
def TellC (w0 : World) (c : Gp.Cst) (e : Ending) (w' : World) : Prop := e = .returned (cv c) ∧ Below w0.heap.size w0 w'
/-- The box of an argument, and the result's, with what is told in it. -/
theorem boxes (w : World) (x y a b : Int) (T U : TypeId) : ∃ W, W = (w.alloc (.cells #[.int .i64 x, .int .i64 y] T)).alloc (.cells #[.int .i64 a, .int .i64 b] U) ∧ W.cell? ⟨w.heap.size + 1, 0, none⟩ = some (.int .i64 a) ∧ W.cell? ⟨w.heap.size + 1, 1, none⟩ = some (.int .i64 b) ∧ Below w.heap.size w W := by
  obtain ⟨W, hW, hX⟩ := Bx.start w (.int .i64 x) (.int .i64 y) (.int .i64 a) (.int .i64 b) T U
  exact ⟨W, hW, hX.r0, hX.r1, hX.below⟩
theorem add_is {x y far a b : Int} (h0 : ¬ far < 1) (ha : min (x + far) 65535 = a) (hb : min (y + 1) 65535 = b) : Gp.add (x, y) far = (a, b) := by
  unfold Gp.add
  rw [if_neg h0, ← ha, ← hb]
theorem join_is {x y u v a b : Int} (ha : min (x + u) 65535 = a) (hb : min (y + v) 65535 = b) : Gp.join (x, y) (u, v) = (a, b) := by
  unfold Gp.join
  rw [← ha, ← hb]
theorem refAdd_any (x y far : Int) (w : World) (h : Gp.May (x, y)) (hf : In64 far) : Calls Try.prog 13 #[.agg #[.int .i64 x, .int .i64 y], .int .i64 far] w (TellC w (Gp.add (x, y) far)) := by
  obtain ⟨h1, h2, h3⟩ := h
  simp only at h1 h2 h3
  unfold In64 at hf
  by_cases h0 : far < 1
  · skip
    obtain ⟨W1, hW, k0, k1, hbe⟩ := boxes w x y x y 23 23
    have E := Lib.hid hW
    have HM := Lib.hid (show TellC w (Gp.add (x, y) far) (.returned (.agg #[.int .i64 x, .int .i64 y])) W1 from ⟨by rw [(Gp.add_none h0)]; rfl, hbe⟩)
    clear hW hbe
    go_enter Try.func13, Try.ntmps13
    go_wp2_with fail
    rw [← E.out]
    refine bodyPost_ret ?_ rfl HM.out
    simp [results, Try.results13, go_sem, k0, k1]
  · have w2 : IntKind.i64.wrap (y + 1) = y + 1 := IntWalk.i64_in _ (by omega)
    by_cases hy : 65535 < y + 1
    · by_cases hb : far ≤ 65535
      · have w1 : IntKind.i64.wrap (x + far) = x + far := IntWalk.i64_in _ (by omega)
        have hx : 65535 < x + far := by omega
        obtain ⟨W1, hW, k0, k1, hbe⟩ := boxes w x y 65535 65535 23 23
        have E := Lib.hid hW
        have HM := Lib.hid (show TellC w (Gp.add (x, y) far) (.returned (.agg #[.int .i64 65535, .int .i64 65535])) W1 from ⟨by rw [(add_is (a := 65535) (b := 65535) h0 (by omega) (by omega))]; rfl, hbe⟩)
        clear hW hbe
        go_enter Try.func13, Try.ntmps13
        go_wp2_with fail
        rw [← E.out]
        refine bodyPost_ret ?_ rfl HM.out
        simp [results, Try.results13, go_sem, k0, k1]
      · skip
        obtain ⟨W1, hW, k0, k1, hbe⟩ := boxes w x y 65535 65535 23 23
        have E := Lib.hid hW
        have HM := Lib.hid (show TellC w (Gp.add (x, y) far) (.returned (.agg #[.int .i64 65535, .int .i64 65535])) W1 from ⟨by rw [(add_is (a := 65535) (b := 65535) h0 (by omega) (by omega))]; rfl, hbe⟩)
        clear hW hbe
        go_enter Try.func13, Try.ntmps13
        go_wp2_with fail
        rw [← E.out]
        refine bodyPost_ret ?_ rfl HM.out
        simp [results, Try.results13, go_sem, k0, k1]
    · by_cases hb : far ≤ 65535
      · have w1 : IntKind.i64.wrap (x + far) = x + far := IntWalk.i64_in _ (by omega)
        by_cases hx : 65535 < x + far
        · skip
          obtain ⟨W1, hW, k0, k1, hbe⟩ := boxes w x y 65535 (y + 1) 23 23
          have E := Lib.hid hW
          have HM := Lib.hid (show TellC w (Gp.add (x, y) far) (.returned (.agg #[.int .i64 65535, .int .i64 (y + 1)])) W1 from ⟨by rw [(add_is (a := 65535) (b := y + 1) h0 (by omega) (by omega))]; rfl, hbe⟩)
          clear hW hbe
          go_enter Try.func13, Try.ntmps13
          go_wp2_with fail
          rw [← E.out]
          refine bodyPost_ret ?_ rfl HM.out
          simp [results, Try.results13, go_sem, k0, k1]
        · skip
          obtain ⟨W1, hW, k0, k1, hbe⟩ := boxes w x y (x + far) (y + 1) 23 23
          have E := Lib.hid hW
          have HM := Lib.hid (show TellC w (Gp.add (x, y) far) (.returned (.agg #[.int .i64 (x + far), .int .i64 (y + 1)])) W1 from ⟨by rw [(add_is (a := x + far) (b := y + 1) h0 (by omega) (by omega))]; rfl, hbe⟩)
          clear hW hbe
          go_enter Try.func13, Try.ntmps13
          go_wp2_with fail
          rw [← E.out]
          refine bodyPost_ret ?_ rfl HM.out
          simp [results, Try.results13, go_sem, k0, k1]
      · skip
        obtain ⟨W1, hW, k0, k1, hbe⟩ := boxes w x y 65535 (y + 1) 23 23
        have E := Lib.hid hW
        have HM := Lib.hid (show TellC w (Gp.add (x, y) far) (.returned (.agg #[.int .i64 65535, .int .i64 (y + 1)])) W1 from ⟨by rw [(add_is (a := 65535) (b := y + 1) h0 (by omega) (by omega))]; rfl, hbe⟩)
        clear hW hbe
        go_enter Try.func13, Try.ntmps13
        go_wp2_with fail
        rw [← E.out]
        refine bodyPost_ret ?_ rfl HM.out
        simp [results, Try.results13, go_sem, k0, k1]
/-- The boxes of two arguments, and the result's, with what is told in it. -/
theorem boxes3 (w : World) (x y u v a b : Int) (T : TypeId) : ∃ W, W = ((w.alloc (.cells #[.int .i64 x, .int .i64 y] T)).alloc (.cells #[.int .i64 u, .int .i64 v] T)).alloc (.cells #[.int .i64 a, .int .i64 b] T) ∧ W.cell? ⟨w.heap.size + 1 + 1, 0, none⟩ = some (.int .i64 a) ∧ W.cell? ⟨w.heap.size + 1 + 1, 1, none⟩ = some (.int .i64 b) ∧ Below w.heap.size w W := by
  refine ⟨_, rfl, ?_, ?_, (((Below.refl _ _).alloc (Nat.le_refl _) _).alloc (by simp) _).alloc (by simp; omega) _⟩
  · rw [World.cell?_alloc_at _ _ _ _ (by simp)]; rfl
  · rw [World.cell?_alloc_at _ _ _ _ (by simp)]; rfl
set_option maxRecDepth 100000 in
theorem refJoin_any (x y u v : Int) (w : World) (h : Gp.May (x, y)) (k : Gp.May (u, v)) : Calls Try.prog 15 #[.agg #[.int .i64 x, .int .i64 y], .agg #[.int .i64 u, .int .i64 v]] w (TellC w (Gp.join (x, y) (u, v))) := by
  obtain ⟨h1, h2, h3⟩ := h
  obtain ⟨k1, k2, k3⟩ := k
  simp only at h1 h2 h3 k1 k2 k3
  have w1 : IntKind.i64.wrap (x + u) = x + u := IntWalk.i64_in _ (by omega)
  have w2 : IntKind.i64.wrap (y + v) = y + v := IntWalk.i64_in _ (by omega)
  by_cases hx : 65535 < x + u
  · by_cases hy : 65535 < y + v
    · skip
      obtain ⟨W1, hW, k0, k1, hbe⟩ := boxes3 w x y u v 65535 65535 23
      have E := Lib.hid hW
      have HM := Lib.hid (show TellC w (Gp.join (x, y) (u, v)) (.returned (.agg #[.int .i64 65535, .int .i64 65535])) W1 from ⟨by rw [join_is (a := 65535) (b := 65535) (by omega) (by omega)]; rfl, hbe⟩)
      clear hW hbe
      go_enter Try.func15, Try.ntmps15
      go_wp2_with fail
      rw [← E.out]
      refine bodyPost_ret ?_ rfl HM.out
      simp [results, Try.results15, go_sem, k0, k1]
    · skip
      obtain ⟨W1, hW, k0, k1, hbe⟩ := boxes3 w x y u v 65535 (y + v) 23
      have E := Lib.hid hW
      have HM := Lib.hid (show TellC w (Gp.join (x, y) (u, v)) (.returned (.agg #[.int .i64 65535, .int .i64 (y + v)])) W1 from ⟨by rw [join_is (a := 65535) (b := (y + v)) (by omega) (by omega)]; rfl, hbe⟩)
      clear hW hbe
      go_enter Try.func15, Try.ntmps15
      go_wp2_with fail
      rw [← E.out]
      refine bodyPost_ret ?_ rfl HM.out
      simp [results, Try.results15, go_sem, k0, k1]
  · by_cases hy : 65535 < y + v
    · omega
    · skip
      obtain ⟨W1, hW, k0, k1, hbe⟩ := boxes3 w x y u v (x + u) (y + v) 23
      have E := Lib.hid hW
      have HM := Lib.hid (show TellC w (Gp.join (x, y) (u, v)) (.returned (.agg #[.int .i64 (x + u), .int .i64 (y + v)])) W1 from ⟨by rw [join_is (a := (x + u)) (b := (y + v)) (by omega) (by omega)]; rfl, hbe⟩)
      clear hW hbe
      go_enter Try.func15, Try.ntmps15
      go_wp2_with fail
      rw [← E.out]
      refine bodyPost_ret ?_ rfl HM.out
      simp [results, Try.results15, go_sem, k0, k1]
theorem may_is {x y : Int} {T : Bool} (hT : Hid (decide (Gp.May (x, y)) = T)) : (T = true ↔ 0 ≤ y ∧ y ≤ x ∧ x ≤ 65535) := by
  rw [← hT.out, decide_eq_true_iff]
  rfl
theorem refMay_any (x y : Int) (T : Bool) (hT : Hid (decide (Gp.May (x, y)) = T)) (w : World) : Calls Try.prog 10 #[.agg #[.int .i64 x, .int .i64 y]] w fun e w' => e = .returned (.bool T) ∧ Below w.heap.size w w' := by
  have hm := may_is hT
  have HB := Lib.hid (below_new w (.cells #[.int .i64 x, .int .i64 y] 23))
  by_cases h1 : x < 0
  · obtain rfl : T = false := by cases T; rfl; have := hm.1 rfl; omega
    clear hm
    go_enter Try.func10, Try.ntmps10
    go_wp2_with fail
    go_ret
    exact ⟨rfl, HB.out⟩
  · by_cases h2 : 65535 < x
    · obtain rfl : T = false := by cases T; rfl; have := hm.1 rfl; omega
      clear hm
      go_enter Try.func10, Try.ntmps10
      go_wp2_with fail
      go_ret
      exact ⟨rfl, HB.out⟩
    · by_cases h3 : y < 0
      · obtain rfl : T = false := by cases T; rfl; have := hm.1 rfl; omega
        clear hm
        go_enter Try.func10, Try.ntmps10
        go_wp2_with fail
        go_ret
        exact ⟨rfl, HB.out⟩
      · by_cases h4 : 65535 < y
        · obtain rfl : T = false := by cases T; rfl; have := hm.1 rfl; omega
          clear hm
          go_enter Try.func10, Try.ntmps10
          go_wp2_with fail
          go_ret
          exact ⟨rfl, HB.out⟩
        · by_cases h5 : y ≤ x
          · obtain rfl : T = true := hm.2 ⟨by omega, h5, by omega⟩
            clear hm
            by_cases h6 : y = 65535
            · obtain rfl : x = 65535 := by omega
              subst h6
              go_enter Try.func10, Try.ntmps10
              go_wp2_with fail
              go_ret
              exact ⟨rfl, HB.out⟩
            · have h7 : (y == 65535) = false := by rw [beq_eq_false_iff_ne]; exact h6
              go_enter Try.func10, Try.ntmps10
              go_wp2_with fail
              go_ret
              exact ⟨rfl, HB.out⟩
          · obtain rfl : T = false := by cases T; rfl; have := hm.1 rfl; omega
            clear hm
            have h6 : (y == 65535) = false ∨ (x == 65535) = false := by
              by_cases e : y = 65535
              · exact .inr (by rw [beq_eq_false_iff_ne]; omega)
              · exact .inl (by rw [beq_eq_false_iff_ne]; exact e)
            by_cases h7 : y = 65535
            · have h8 : (x == 65535) = false := by rw [beq_eq_false_iff_ne]; omega
              subst h7
              clear h6
              go_enter Try.func10, Try.ntmps10
              go_wp2_with fail
              go_ret
              exact ⟨rfl, HB.out⟩
            · have h8 : (y == 65535) = false := by rw [beq_eq_false_iff_ne]; exact h7
              clear h6
              go_enter Try.func10, Try.ntmps10
              go_wp2_with fail
              go_ret
              exact ⟨rfl, HB.out⟩
/-- The law's comparison. -/
theorem same_any (x y : Int) (w : World) : Calls Try.prog 11 #[.agg #[.int .i64 x, .int .i64 y], .agg #[.int .i64 x, .int .i64 y]] w fun e w' => e = .returned (.bool true) ∧ Below w.heap.size w w' := by
  have HB := Lib.hid (((Below.refl _ w).alloc (Nat.le_refl _) (.cells #[.int .i64 x, .int .i64 y] 25)).alloc (by simp) (.cells #[.int .i64 x, .int .i64 y] 23))
  go_enter Try.func11, Try.ntmps11
  go_wp2_with fail
  go_ret
  exact ⟨rfl, HB.out⟩
end Go.Proofs.Ytceboejhdgjgoaa

