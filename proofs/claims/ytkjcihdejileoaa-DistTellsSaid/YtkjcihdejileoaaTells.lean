/- DistTells: of any vertices (64 at most) how far any two processors are, the node of any one, and who is near it, are the document's: the call answers true and changes nothing that was there; for every input. -/
import Derived.Test.YtkjcihdejileoaaShown
import Derived.Test.YtkjcihdejileoaaFrame
namespace Go.Proofs.Ytkjcihdejileoaa.distTells
open Go.ChangeShapes Go.WideShapes Go.ChangeAt Go.RowKit
set_option linter.unusedVariables false

theorem walk (A : Option Addr) (n c : Nat) (vs : List (Int × Int)) (a b : Int) (w : World)
    (hn : Hid (vs.length = n)) (hl : n ≤ 9223372036854775807) (hf : Hid (Fit vs)) (hv : VRow w w.heap.size A vs) :
    Calls Try.prog 3 #[.slice A n c, .int .i64 a, .int .i64 b] w fun e w' => e = .returned (.bool true) ∧ Below w.heap.size w w' := by
  go_enter Try.func3, Try.ntmps3
  go_wp2_with fail
  refine (shown_any _).mono ?_
  rintro e w1 ⟨rfl, hb1⟩
  by_cases h64 : n ≤ 64
  · have hv1 := (hv.below hb1).more hb1.size
    go_wp2_with fail
    refine (far_any _ n c vs a b _ hn hl hf hv1).mono ?_
    rintro e w2 ⟨rfl, hb2⟩
    have hbe2 := hb1.trans (hb2.mono hb1.size)
    have hv2 := (hv.below hbe2).more hbe2.size
    clear hb1 hb2 hv1
    go_wp2_with fail
    refine (refFar_any _ n c vs a b _ hn hl hf hv2).mono ?_
    rintro e w3 ⟨rfl, hb3⟩
    have hbe3 := hbe2.trans (hb3.mono hbe2.size)
    have hv3 := (hv.below hbe3).more hbe3.size
    clear hb3 hbe2 hv2
    go_wp2_with fail
    refine (node_any _ n c vs a _ hn hl hf hv3).mono ?_
    rintro e w4 ⟨rfl, hb4⟩
    have hbe4 := hbe3.trans (hb4.mono hbe3.size)
    have hv4 := (hv.below hbe4).more hbe4.size
    clear hb4 hbe3 hv3
    go_wp2_with fail
    refine (refNode_any _ n c vs a _ hn hl hf hv4).mono ?_
    rintro e w5 ⟨rfl, hb5⟩
    have hbe5 := hbe4.trans (hb5.mono hbe4.size)
    have hv5 := (hv.below hbe5).more hbe5.size
    clear hb5 hbe4 hv4
    go_wp2_with fail
    refine (near_any _ n c vs a _ hn hl hf hv5).mono ?_
    rintro e w6 ⟨A6, c6, rfl, hI6, hb6⟩
    have hbe6 := hbe5.trans (hb6.mono hbe5.size)
    have hv6 := (hv.below hbe6).more hbe6.size
    clear hb6 hbe5 hv5
    go_wp2_with fail
    refine (refNear_any _ n c vs a _ hn hl hf hv6).mono ?_
    rintro e w7 ⟨A7, c7, rfl, hI7, hb7⟩
    have hbe7 := hbe6.trans (hb7.mono hbe6.size)
    have hI6 := (hI6.below hb7).more hb7.size
    clear hb7 hbe6 hv6
    have hle : (Dp.near vs a).length ≤ 192 := by
      have hp : Dp.procsN vs ≤ 64 := by
        unfold Dp.procsN
        split
        · have := Tp.thoseF_le (fun x => x.2 == 3) vs 0
          have := hn.out
          unfold Dp.procs Tp.those
          omega
        · omega
      by_cases h : a < 0 ∨ (Dp.procsN vs : Int) ≤ a
      · rw [Dp.near_out h]; simp
      · rw [Dp.near_in h]
        have := Dp.nearTo_le vs a 3
        omega
    go_wp2_with fail
    refine (ints_same _ _ _ _ _ _ _ (Lib.hid rfl) (by omega) hI6 hI7).mono ?_
    rintro e w8 ⟨rfl, hb8⟩
    have hbe8 := hbe7.trans (hb8.mono hbe7.size)
    go_wp2_with fail
    go_ret
    exact ⟨rfl, hbe8⟩
  · go_wp2_with fail
    go_ret
    exact ⟨rfl, hb1⟩
set_option maxRecDepth 100000 in
theorem lifted (os : Os) (started : os.Started) (H : Type) (enc : TypeId × Value → H) :
    ReturnsInHanded {} Try.checked os 3 .any (Rows.distTellsSpec.pre6 enc Try.prog Try.f3 Rows.distTellsRow.domain false) (Rows.distTellsSpec.post enc Try.prog Try.f3 false true false false) := by
  refine returnsInHanded_of_change (C := Try.checked) own started (by kernel_rfl) Try.func3
    (ChangeSpec.witness6 (enc := enc) (C := Try.checked) false ⟨#[], #[.slice none 0 0, .int .i64 0, .int .i64 0], []⟩ 8 (by kernel_rfl) (by kernel_rfl) (by kernel_rfl) (by kernel_rfl)) ?_
  intro W base args ds gs before hval0 hW hcnd _
  have hval : ∀ (j : Nat) t v, Try.f3.params[j]? = some t → args[j]? = some v → Value.okWide Try.prog W .any base t v := hval0
  have hW' := hW
  obtain ⟨p, q, hA0, hV, rfl, hfz, hnd⟩ := hW
  have hA : DataW.TrodAll enc Try.prog W 0 (fun _ => true) true Try.f3.params.toList args.toList ds p := hA0
  rw [Try.params3] at hA hval
  obtain ⟨v0, vs0, d0, ds0, p0, q0, hargs, rfl, rfl, h0, r0⟩ := trodAll_cons hA
  obtain ⟨v1, vs1, d1, ds1, p1, q1, rfl, rfl, rfl, h1, r1⟩ := trodAll_cons r0
  obtain ⟨v2, vs2, d2, ds2, p2, q2, rfl, rfl, rfl, h2, r2⟩ := trodAll_cons r1
  obtain ⟨rfl, rfl, rfl⟩ := trodAll_nil r2
  obtain rfl : args = #[v0, v1, v2] := by cases args; simp_all
  obtain ⟨rfl, rfl⟩ := trodVars_none hV
  obtain ⟨a0, len0, cap0, rfl⟩ := okWide_slice Try.underlying22 (hval 0 22 v0 rfl rfl)
  have k0 := h0
  have lt0 : ∀ x ∈ p0, x.block < W.heap.size := by obtain ⟨m, hm⟩ := k0; exact DataW.trod_lt m _ _ _ hm
  obtain ⟨hl0, hc0, z0, hn0, hf0, hr0⟩ : len0 ≤ 9223372036854775807 ∧ (len0 ≤ cap0 ∧ cap0 ≤ 9223372036854775807) ∧ ∃ vs : List (Int × Int), vs.length = len0 ∧ Fit vs ∧ VRow W W.heap.size a0 vs := by
    obtain ⟨fuel, hf⟩ := h0
    exact open_vs (by simpa [Value.cells] using hf)
  obtain ⟨a1, rfl, rfl, rfl, w1⟩ := open_int Try.underlying3 (hval 1 3 v1 rfl rfl) h1
  obtain ⟨a2, rfl, rfl, rfl, w2⟩ := open_int Try.underlying3 (hval 2 3 v2 rfl rfl) h2
  clear hA0 hval0
  refine (walk a0 len0 cap0 z0 a1 a2 W (Lib.hid hn0) hl0 (Lib.hid hf0) hr0).mono fun e W' ⟨he, bel⟩ => ?_
  subst he
  exact ⟨_, rfl, _, _, _, [], _, [], hW', trodAll_mk1 (shut_bool Try.underlying4 _), (trodAll_cons_mk (Below.trod laidOut (by kernel_rfl) (of_decide_eq_true (by kernel_rfl)) k0 bel lt0) (trodAll_cons_mk (shut_int Try.underlying3 w1) (trodAll_cons_mk (shut_int Try.underlying3 w2) trodAll_mk0))), rfl, bel.frame _, fun h => by cases h⟩
theorem over : Rows.distTellsRow.holds Try.pinned (OpenSpec.ofChange Rows.distTellsSpec) :=
  OpenClaim.holds_of_wide 3 Try.f3 rfl rfl rfl rfl rfl rfl rfl ⟨rfl, rfl, rfl, rfl, rfl⟩ rfl rfl rfl rfl rfl (by kernel_rfl) Try.func3 (by kernel_rfl)
    (of_decide_eq_true (by kernel_rfl)) (by unfold Func.isWrapper; first | (rw [if_pos (by decide +kernel)]; kernel_rfl) | (rw [if_neg (by decide +kernel)]; exact ⟨rfl, rfl⟩))
    (fun os started H enc _ => lifted os started H enc)
theorem proved : Rows.DistTellsSaid := over
end Go.Proofs.Ytkjcihdejileoaa.distTells

