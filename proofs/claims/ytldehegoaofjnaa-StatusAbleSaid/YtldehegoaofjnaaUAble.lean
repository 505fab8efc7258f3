/- StatusAble: who is able was readied, or runs: the call answers true and changes nothing that was there; for every input. -/
import Derived.Test.YtldehegoaofjnaaUShown
import Derived.Test.YtldehegoaofjnaaFrame
namespace Go.Proofs.Ytldehegoaofjnaa.statusAble
open Go.ChangeShapes Go.WideShapes Go.ChangeAt Go.RowKit
set_option linter.unusedVariables false

theorem mod6 {z : Int} (h0 : 0 ≤ z) : z.tmod 6 = z % 6 := Int.tmod_eq_emod_of_nonneg h0
set_option maxHeartbeats 4000000 in
theorem walk (a b : Int) (w : World) (hu : (Lit.int .u8 a).wf = true) (hv : (Lit.int .u8 b).wf = true) :
    Calls Try.prog 6 #[.int .u8 a, .int .u8 b] w fun e w' => e = .returned (.bool true) ∧ Below w.heap.size w w' := by
  have hu' : 0 ≤ a ∧ a ≤ 255 := by simpa [Lit.wf, IntKind.min, IntKind.max, IntKind.signed, IntKind.bits] using hu
  have hv' : 0 ≤ b ∧ b ≤ 255 := by simpa [Lit.wf, IntKind.min, IntKind.max, IntKind.signed, IntKind.bits] using hv
  have ma := mod6 hu'.1
  have mb := mod6 hv'.1
  obtain ⟨x, hx⟩ : ∃ x, a % 6 = x := ⟨_, rfl⟩
  obtain ⟨y, hy⟩ : ∃ y, b % 6 = y := ⟨_, rfl⟩
  rw [hx] at ma
  rw [hy] at mb
  have cx : x = 0 ∨ x = 1 ∨ x = 2 ∨ x = 3 ∨ x = 4 ∨ x = 5 := by omega
  have cy : y = 0 ∨ y = 1 ∨ y = 2 ∨ y = 3 ∨ y = 4 ∨ y = 5 := by omega
  clear hu hv hu' hv'
  have CX := Lib.hid cx
  have CY := Lib.hid cy
  clear cx cy
  go_enter Try.func6, Try.ntmps6
  go_wp2_with fail
  refine (shown_any _).mono ?_
  rintro e w1 ⟨rfl, hb⟩
  have HB1 := Lib.hid hb
  clear hb
  go_wp2_with fail
  refine (may_any x y _).mono ?_
  rintro e w2 ⟨rfl, rfl⟩
  rcases CX.out with rfl | rfl | rfl | rfl | rfl | rfl
  · skip
    go_wp2_with fail
    refine (able_any 0 _).mono ?_
    rintro e w3 ⟨rfl, rfl⟩
    rw [show Sp.able 0 = false from rfl]
    go_wp2_with fail
    refine (able_any y _).mono ?_
    rintro e w4 ⟨rfl, rfl⟩
    rcases CY.out with rfl | rfl | rfl | rfl | rfl | rfl
    all_goals
      rw [Sp.may_eq]
      unfold Sp.able
      go_wp2_with fail
      go_ret
      exact ⟨rfl, HB1.out⟩
  · skip
    go_wp2_with fail
    refine (able_any 1 _).mono ?_
    rintro e w3 ⟨rfl, rfl⟩
    rw [show Sp.able 1 = true from rfl]
    rcases CY.out with rfl | rfl | rfl | rfl | rfl | rfl
    all_goals
      rw [Sp.may_eq]
      go_wp2_with fail
      go_ret
      exact ⟨rfl, HB1.out⟩
  · skip
    go_wp2_with fail
    refine (able_any 2 _).mono ?_
    rintro e w3 ⟨rfl, rfl⟩
    rw [show Sp.able 2 = true from rfl]
    rcases CY.out with rfl | rfl | rfl | rfl | rfl | rfl
    all_goals
      rw [Sp.may_eq]
      go_wp2_with fail
      go_ret
      exact ⟨rfl, HB1.out⟩
  · skip
    go_wp2_with fail
    refine (able_any 3 _).mono ?_
    rintro e w3 ⟨rfl, rfl⟩
    rw [show Sp.able 3 = false from rfl]
    go_wp2_with fail
    refine (able_any y _).mono ?_
    rintro e w4 ⟨rfl, rfl⟩
    rcases CY.out with rfl | rfl | rfl | rfl | rfl | rfl
    all_goals
      rw [Sp.may_eq]
      unfold Sp.able
      go_wp2_with fail
      go_ret
      exact ⟨rfl, HB1.out⟩
  · skip
    go_wp2_with fail
    refine (able_any 4 _).mono ?_
    rintro e w3 ⟨rfl, rfl⟩
    rw [show Sp.able 4 = false from rfl]
    go_wp2_with fail
    refine (able_any y _).mono ?_
    rintro e w4 ⟨rfl, rfl⟩
    rcases CY.out with rfl | rfl | rfl | rfl | rfl | rfl
    all_goals
      rw [Sp.may_eq]
      unfold Sp.able
      go_wp2_with fail
      go_ret
      exact ⟨rfl, HB1.out⟩
  · skip
    go_wp2_with fail
    refine (able_any 5 _).mono ?_
    rintro e w3 ⟨rfl, rfl⟩
    rw [show Sp.able 5 = false from rfl]
    go_wp2_with fail
    refine (able_any y _).mono ?_
    rintro e w4 ⟨rfl, rfl⟩
    rcases CY.out with rfl | rfl | rfl | rfl | rfl | rfl
    all_goals
      rw [Sp.may_eq]
      unfold Sp.able
      go_wp2_with fail
      go_ret
      exact ⟨rfl, HB1.out⟩
set_option maxRecDepth 100000 in
theorem lifted (os : Os) (started : os.Started) (H : Type) (enc : TypeId × Value → H) :
    ReturnsInHanded {} Try.checked os 6 .any (Rows.statusAbleSpec.pre6 enc Try.prog Try.f6 Rows.statusAbleRow.domain false) (Rows.statusAbleSpec.post enc Try.prog Try.f6 false true false false) := by
  refine returnsInHanded_of_change (C := Try.checked) own started (by kernel_rfl) Try.func6
    (ChangeSpec.witness6 (enc := enc) (C := Try.checked) false ⟨#[], #[.int .u8 0, .int .u8 0], []⟩ 8 (by kernel_rfl) (by kernel_rfl) (by kernel_rfl) (by kernel_rfl)) ?_
  intro W base args ds gs before hval0 hW hcnd _
  have hval : ∀ (j : Nat) t v, Try.f6.params[j]? = some t → args[j]? = some v → Value.okWide Try.prog W .any base t v := hval0
  have hW' := hW
  obtain ⟨p, q, hA0, hV, rfl, hfz, hnd⟩ := hW
  have hA : DataW.TrodAll enc Try.prog W 0 (fun _ => true) true Try.f6.params.toList args.toList ds p := hA0
  rw [Try.params6] at hA hval
  obtain ⟨v0, vs0, d0, ds0, p0, q0, hargs, rfl, rfl, h0, r0⟩ := trodAll_cons hA
  obtain ⟨v1, vs1, d1, ds1, p1, q1, rfl, rfl, rfl, h1, r1⟩ := trodAll_cons r0
  obtain ⟨rfl, rfl, rfl⟩ := trodAll_nil r1
  obtain rfl : args = #[v0, v1] := by cases args; simp_all
  obtain ⟨rfl, rfl⟩ := trodVars_none hV
  obtain ⟨a0, rfl, rfl, rfl, w0⟩ := open_int Try.underlying5 (hval 0 5 v0 rfl rfl) h0
  obtain ⟨a1, rfl, rfl, rfl, w1⟩ := open_int Try.underlying5 (hval 1 5 v1 rfl rfl) h1
  clear hA0 hval0
  refine (walk a0 a1 W w0 w1).mono fun e W' ⟨he, bel⟩ => ?_
  subst he
  exact ⟨_, rfl, _, _, _, [], _, [], hW', trodAll_mk1 (shut_bool Try.underlying4 _), (trodAll_cons_mk (shut_int Try.underlying5 w0) (trodAll_cons_mk (shut_int Try.underlying5 w1) trodAll_mk0)), rfl, bel.frame _, fun h => by cases h⟩
theorem over : Rows.statusAbleRow.holds Try.pinned (OpenSpec.ofChange Rows.statusAbleSpec) :=
  OpenClaim.holds_of_wide 6 Try.f6 rfl rfl rfl rfl rfl rfl rfl ⟨rfl, rfl, rfl, rfl, rfl⟩ rfl rfl rfl rfl rfl (by kernel_rfl) Try.func6 (by kernel_rfl)
    (of_decide_eq_true (by kernel_rfl)) (by unfold Func.isWrapper; first | (rw [if_pos (by decide +kernel)]; kernel_rfl) | (rw [if_neg (by decide +kernel)]; exact ⟨rfl, rfl⟩))
    (fun os started H enc _ => lifted os started H enc)
theorem proved : Rows.StatusAbleSaid := over
end Go.Proofs.Ytldehegoaofjnaa.statusAble

