/- DistThree: of three processors no one is farther from another one than the farther one of the third's ways to both; two share a node just if they are nearer than 3: the call answers true and changes nothing that was there; for every input. -/
import Derived.Test.YtkjcihdejileoaaShown
import Derived.Test.YtkjcihdejileoaaFrame
namespace Go.Proofs.Ytkjcihdejileoaa.distThree
open Go.ChangeShapes Go.WideShapes Go.ChangeAt Go.RowKit
set_option linter.unusedVariables false

set_option maxHeartbeats 1000000 in
theorem walk (A : Option Addr) (n k : Nat) (vs : List (Int × Int)) (a b c : Int) (w : World)
    (hn : Hid (vs.length = n)) (hl : n ≤ 9223372036854775807) (hf : Hid (Fit vs)) (hv : VRow w w.heap.size A vs) :
    Calls Try.prog 5 #[.slice A n k, .int .i64 a, .int .i64 b, .int .i64 c] w fun e w' => e = .returned (.bool true) ∧ Below w.heap.size w w' := by
  go_enter Try.func5, Try.ntmps5
  go_wp2_with fail
  refine (shown_any _).mono ?_
  rintro e w1 ⟨rfl, hb1⟩
  by_cases h64 : n ≤ 64
  · have hv1 := (hv.below hb1).more hb1.size
    go_wp2_with fail
    refine (far_any _ n k vs a b _ hn hl hf hv1).mono ?_
    rintro e w2 ⟨rfl, hb2⟩
    have hbe2 := hb1.trans (hb2.mono hb1.size)
    have hv2 := (hv.below hbe2).more hbe2.size
    clear hb1 hb2 hv1
    go_wp2_with fail
    refine (far_any _ n k vs b c _ hn hl hf hv2).mono ?_
    rintro e w3 ⟨rfl, hb3⟩
    have hbe3 := hbe2.trans (hb3.mono hbe2.size)
    have hv3 := (hv.below hbe3).more hbe3.size
    clear hb3 hbe2 hv2
    go_wp2_with fail
    refine (far_any _ n k vs a c _ hn hl hf hv3).mono ?_
    rintro e w4 ⟨rfl, hb4⟩
    have hbe4 := hbe3.trans (hb4.mono hbe3.size)
    have hv4 := (hv.below hbe4).more hbe4.size
    clear hb4 hbe3 hv3
    have bx := Dp.far_bounds vs a b
    have B1 : Hid (0 ≤ Dp.far vs a b → (Dp.node vs a = Dp.node vs b ↔ Dp.far vs a b < 3)) := Lib.hid (Dp.node_eq)
    have B2 : Hid (0 ≤ Dp.far vs a b → 0 ≤ Dp.far vs b c → 0 ≤ Dp.far vs a c → Dp.far vs a c ≤ Dp.far vs a b ∨ Dp.far vs a c ≤ Dp.far vs b c) := Lib.hid (Dp.far_three)
    generalize Dp.far vs a b = x at *
    generalize Dp.far vs b c = y at *
    generalize Dp.far vs a c = z at *
    by_cases hx : x < 0
    · go_wp2_with fail
      go_ret
      exact ⟨rfl, hbe4⟩
    by_cases hy : y < 0
    · go_wp2_with fail
      go_ret
      exact ⟨rfl, hbe4⟩
    by_cases hz : z < 0
    · go_wp2_with fail
      go_ret
      exact ⟨rfl, hbe4⟩
    have b1 := B1.out (by omega)
    have b2 := B2.out (by omega) (by omega) (by omega)
    have B1' := Lib.hid b1
    clear B1 B2 b1
    have cases3 : (z ≤ x ∧ z ≤ y) ∨ (z ≤ x ∧ ¬ z ≤ y) ∨ (¬ z ≤ x ∧ z ≤ y) := by omega
    clear b2
    rcases cases3 with ⟨p1, p2⟩ | ⟨p1, p2⟩ | ⟨p1, p2⟩
    all_goals rcases Int.lt_trichotomy x y with hxy | hxy | hxy
    all_goals try (subst hxy)
    all_goals try (exfalso; omega)
    all_goals
      go_wp2_with fail
      refine (node_any _ n k vs a _ hn hl hf hv4).mono ?_
      rintro e w5 ⟨rfl, hb5⟩
      have hbe5 := hbe4.trans (hb5.mono hbe4.size)
      have hv5 := (hv.below hbe5).more hbe5.size
      go_wp2_with fail
      refine (node_any _ n k vs b _ hn hl hf hv5).mono ?_
      rintro e w6 ⟨rfl, hb6⟩
      have hbe6 := hbe5.trans (hb6.mono hbe5.size)
      generalize Dp.node vs a = u at *
      generalize Dp.node vs b = v at *
      have hb' := B1'.out
      by_cases h3 : x < 3
      · have q1 : (u == v) = true := by rw [beq_iff_eq]; exact hb'.2 h3
        clear hb'
        go_wp2_with fail
        go_ret
        refine ⟨?_, hbe6⟩
        first | rfl | exact ret_bool (by simp; omega)
      · have q1 : (u == v) = false := by rw [beq_eq_false_iff_ne]; exact fun h => h3 (hb'.1 h)
        clear hb'
        go_wp2_with fail
        go_ret
        refine ⟨?_, hbe6⟩
        first | rfl | exact ret_bool (by simp; omega)
  · go_wp2_with fail
    go_ret
    exact ⟨rfl, hb1⟩
set_option maxRecDepth 100000 in
theorem lifted (os : Os) (started : os.Started) (H : Type) (enc : TypeId × Value → H) :
    ReturnsInHanded {} Try.checked os 5 .any (Rows.distThreeSpec.pre6 enc Try.prog Try.f5 Rows.distThreeRow.domain false) (Rows.distThreeSpec.post enc Try.prog Try.f5 false true false false) := by
  refine returnsInHanded_of_change (C := Try.checked) own started (by kernel_rfl) Try.func5
    (ChangeSpec.witness6 (enc := enc) (C := Try.checked) false ⟨#[], #[.slice none 0 0, .int .i64 0, .int .i64 0, .int .i64 0], []⟩ 8 (by kernel_rfl) (by kernel_rfl) (by kernel_rfl) (by kernel_rfl)) ?_
  intro W base args ds gs before hval0 hW hcnd _
  have hval : ∀ (j : Nat) t v, Try.f5.params[j]? = some t → args[j]? = some v → Value.okWide Try.prog W .any base t v := hval0
  have hW' := hW
  obtain ⟨p, q, hA0, hV, rfl, hfz, hnd⟩ := hW
  have hA : DataW.TrodAll enc Try.prog W 0 (fun _ => true) true Try.f5.params.toList args.toList ds p := hA0
  rw [Try.params5] at hA hval
  obtain ⟨v0, vs0, d0, ds0, p0, q0, hargs, rfl, rfl, h0, r0⟩ := trodAll_cons hA
  obtain ⟨v1, vs1, d1, ds1, p1, q1, rfl, rfl, rfl, h1, r1⟩ := trodAll_cons r0
  obtain ⟨v2, vs2, d2, ds2, p2, q2, rfl, rfl, rfl, h2, r2⟩ := trodAll_cons r1
  obtain ⟨v3, vs3, d3, ds3, p3, q3, rfl, rfl, rfl, h3, r3⟩ := trodAll_cons r2
  obtain ⟨rfl, rfl, rfl⟩ := trodAll_nil r3
  obtain rfl : args = #[v0, v1, v2, v3] := by cases args; simp_all
  obtain ⟨rfl, rfl⟩ := trodVars_none hV
  obtain ⟨a0, len0, cap0, rfl⟩ := okWide_slice Try.underlying22 (hval 0 22 v0 rfl rfl)
  have k0 := h0
  have lt0 : ∀ x ∈ p0, x.block < W.heap.size := by obtain ⟨m, hm⟩ := k0; exact DataW.trod_lt m _ _ _ hm
  obtain ⟨hl0, hc0, z0, hn0, hf0, hr0⟩ : len0 ≤ 9223372036854775807 ∧ (len0 ≤ cap0 ∧ cap0 ≤ 9223372036854775807) ∧ ∃ vs : List (Int × Int), vs.length = len0 ∧ Fit vs ∧ VRow W W.heap.size a0 vs := by
    obtain ⟨fuel, hf⟩ := h0
    exact open_vs (by simpa [Value.cells] using hf)
  obtain ⟨a1, rfl, rfl, rfl, w1⟩ := open_int Try.underlying3 (hval 1 3 v1 rfl rfl) h1
  obtain ⟨a2, rfl, rfl, rfl, w2⟩ := open_int Try.underlying3 (hval 2 3 v2 rfl rfl) h2
  obtain ⟨a3, rfl, rfl, rfl, w3⟩ := open_int Try.underlying3 (hval 3 3 v3 rfl rfl) h3
  clear hA0 hval0
  refine (walk a0 len0 cap0 z0 a1 a2 a3 W (Lib.hid hn0) hl0 (Lib.hid hf0) hr0).mono fun e W' ⟨he, bel⟩ => ?_
  subst he
  exact ⟨_, rfl, _, _, _, [], _, [], hW', trodAll_mk1 (shut_bool Try.underlying4 _), (trodAll_cons_mk (Below.trod laidOut (by kernel_rfl) (of_decide_eq_true (by kernel_rfl)) k0 bel lt0) (trodAll_cons_mk (shut_int Try.underlying3 w1) (trodAll_cons_mk (shut_int Try.underlying3 w2) (trodAll_cons_mk (shut_int Try.underlying3 w3) trodAll_mk0)))), rfl, bel.frame _, fun h => by cases h⟩
theorem over : Rows.distThreeRow.holds Try.pinned (OpenSpec.ofChange Rows.distThreeSpec) :=
  OpenClaim.holds_of_wide 5 Try.f5 rfl rfl rfl rfl rfl rfl rfl ⟨rfl, rfl, rfl, rfl, rfl⟩ rfl rfl rfl rfl rfl (by kernel_rfl) Try.func5 (by kernel_rfl)
    (of_decide_eq_true (by kernel_rfl)) (by unfold Func.isWrapper; first | (rw [if_pos (by decide +kernel)]; kernel_rfl) | (rw [if_neg (by decide +kernel)]; exact ⟨rfl, rfl⟩))
    (fun os started H enc _ => lifted os started H enc)
theorem proved : Rows.DistThreeSaid := over
end Go.Proofs.Ytkjcihdejileoaa.distThree

