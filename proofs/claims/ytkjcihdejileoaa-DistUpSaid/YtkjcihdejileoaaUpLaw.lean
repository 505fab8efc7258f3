/- DistUp: two processors are as far from each other as the first vertex above both is above them: the vertices of that level are one, those of the level below aren't: the call answers true and changes nothing that was there; for every input. -/
import Derived.Test.YtkjcihdejileoaaShown
import Derived.Test.YtkjcihdejileoaaFrame
namespace Go.Proofs.Ytkjcihdejileoaa.distUp
open Go.ChangeShapes Go.WideShapes Go.ChangeAt Go.RowKit
set_option linter.unusedVariables false

/-- A quiet call behind draws that have been joined. -/
theorem quiet_more {P : Program} {f : FuncId} {args : Array Value} {w : World} {a m : Nat} {v : Value} (h : Calls P f args (w.drewN (a + m)) fun e w' => e = .returned v ∧ w' = w.drewN (a + m)) :
    Calls P f args (w.drewN (a + m)) fun e w'' => e = .returned v ∧ ∃ k, w'' = w.drewN (a + k) := h.mono fun _ _ ⟨he, hw⟩ => ⟨he, m, hw⟩

set_option maxHeartbeats 1000000 in
theorem walk (A : Option Addr) (n c : Nat) (vs : List (Int × Int)) (a b : Int) (w : World)
    (hn : Hid (vs.length = n)) (hl : n ≤ 9223372036854775807) (hf : Hid (Fit vs)) (hv : VRow w w.heap.size A vs) :
    Calls Try.prog 9 #[.slice A n c, .int .i64 a, .int .i64 b] w fun e w' => e = .returned (.bool true) ∧ Below w.heap.size w w' := by
  go_enter Try.func9, Try.ntmps9
  go_wp2_with fail
  refine (shown_any _).mono ?_
  rintro e w1 ⟨rfl, hb1⟩
  by_cases h64 : n ≤ 64
  · have hv1 := (hv.below hb1).more hb1.size
    go_wp2_with fail
    refine (far_any _ n c vs a b _ hn hl hf hv1).mono ?_
    rintro e w2 ⟨rfl, hb2⟩
    have hbe2 := hb1.trans (hb2.mono hb1.size)
    have hv2 := (hv.below hbe2).more hbe2.size
    clear hb1 hb2 hv1
    go_wp2_with fail
    refine (refProcs_any _ n c vs _ hn hl hf hv2).mono ?_
    rintro e w3 ⟨rfl, hb3⟩
    have hbe3 := hbe2.trans (hb3.mono hbe2.size)
    have hv3 := (hv.below hbe3).more hbe3.size
    clear hb3 hbe2 hv2
    generalize hpn : Dp.procsN vs = m
    have HPN := Lib.hid hpn
    clear hpn
    by_cases ho : a < 0 ∨ (m : Int) ≤ a ∨ b < 0 ∨ (m : Int) ≤ b
    · have hfar : Dp.far vs a b = -1 := Dp.far_out (by rw [HPN.out]; exact ho)
      rw [hfar]
      clear hfar
      by_cases g1 : a < 0
      · clear ho
        go_wp2_with fail
        go_ret
        exact ⟨rfl, hbe3⟩
      by_cases g2 : (m : Int) ≤ a
      · clear ho
        go_wp2_with fail
        go_ret
        exact ⟨rfl, hbe3⟩
      by_cases g3 : b < 0
      · clear ho
        go_wp2_with fail
        go_ret
        exact ⟨rfl, hbe3⟩
      have g4 : (m : Int) ≤ b := by omega
      clear ho
      go_wp2_with fail
      go_ret
      exact ⟨rfl, hbe3⟩
    · have T : Tp.Tree vs := Dp.tree_of_in (a := a) (by omega) (by rw [HPN.out]; omega)
      obtain ⟨pa, pam⟩ := Dp.proc_mem T (a := a) (by omega) (by rw [HPN.out]; omega)
      obtain ⟨pb, pbm⟩ := Dp.proc_mem T (a := b) (by omega) (by rw [HPN.out]; omega)
      rw [Dp.far_in (a := a) (b := b) (by rw [HPN.out]; exact ho)]
      have bd := Dp.farV_bounds vs (Dp.proc vs a) (Dp.proc vs b)
      have hab := Dp.farV_above T pam pbm
      have hmn : (Tp.those (levelP 3) vs).length = m := by rw [← HPN.out, Dp.procsN_tree T]; rfl
      generalize Dp.farV vs (Dp.proc vs a) (Dp.proc vs b) = d at *
      generalize Dp.proc vs a = x at *
      generalize Dp.proc vs b = y at *
      obtain ⟨d0, d3⟩ := bd
      have PA := Lib.hid pa
      have PB := Lib.hid pb
      have HMN := Lib.hid hmn
      unfold Dp.above at hab
      rw [hn.out, show 3 - (d - 1) = 4 - d by omega] at hab
      obtain ⟨ab1, ab2⟩ := hab
      have AB1 := Lib.hid ab1
      have AB2 := Lib.hid ab2
      obtain ⟨i, rfl⟩ := Int.eq_ofNat_of_zero_le (show 0 ≤ a by omega)
      obtain ⟨j, rfl⟩ := Int.eq_ofNat_of_zero_le (show 0 ≤ b by omega)
      have him : i < m := by omega
      have hjm : j < m := by omega
      have s1 : decide ((i : Int) < 0) = false := by simp
      have s2 : decide ((j : Int) < 0) = false := by simp
      have s3 : decide (m ≤ i) = false := by simp; omega
      have s4 : decide (m ≤ j) = false := by simp; omega
      have s5 : IntKind.i64.wrap (3 - d) = 3 - d := IntWalk.i64_in _ (by omega)
      have s6 : IntKind.i64.wrap (4 - d) = 4 - d := IntWalk.i64_in _ (by omega)
      have s7 : decide (d < 0) = false := by simp; omega
      have s8 : decide (3 < d) = false := by simp; omega
      clear pa pb hmn ab1 ab2 ho pam pbm
      go_wp2_with fail
      refine (refOf_any A n c vs 3 _ hn hl (by omega) hv3).mono ?_
      rintro e w4 ⟨A4, c4, rfl, hI4, hb4⟩
      have hbe4 := hbe3.trans (hb4.mono hbe3.size)
      have hv4 := (hv.below hbe4).more hbe4.size
      rw [HMN.out]
      obtain ⟨rb, ro, hA4, _, hca⟩ := hI4 i x PA.out
      obtain ⟨rb2, ro2, hA5, _, hcb⟩ := hI4 j y PB.out
      subst hA4
      injection hA5 with hA5
      injection hA5 with e1 e2
      subst e1 e2
      clear hb4 hI4 hv3
      have GA : Hid (∀ (l : Int) (q : Nat), Calls Try.prog 22 #[.slice A n c, .int .i64 x, .int .i64 l] (w4.drewN q) fun e w' => e = .returned (.int .i64 (Tp.up vs l n x)) ∧ w' = w4.drewN q) :=
        Lib.hid (fun l q => (refUp_any A n c vs x l (w4.drewN q) hn hl hv4).mono fun e w' ⟨he, hw⟩ => ⟨he, hw.symm⟩)
      have GB : Hid (∀ (l : Int) (q : Nat), Calls Try.prog 22 #[.slice A n c, .int .i64 y, .int .i64 l] (w4.drewN q) fun e w' => e = .returned (.int .i64 (Tp.up vs l n y)) ∧ w' = w4.drewN q) :=
        Lib.hid (fun l q => (refUp_any A n c vs y l (w4.drewN q) hn hl hv4).mono fun e w' ⟨he, hw⟩ => ⟨he, hw.symm⟩)
      have r1 : (Tp.up vs (3 - d) n x == Tp.up vs (3 - d) n y) = true := by rw [beq_iff_eq]; exact AB1.out
      go_wp2_with fail
      go_quiet ((go_at_call 22; first | (with_reducible exact Calls.quiet_of_same (GA.out _ _)) | (with_reducible exact Calls.quiet_of_same (GB.out _ _))))
      by_cases hd : 0 < d
      · have r2 : (Tp.up vs (4 - d) n x == Tp.up vs (4 - d) n y) = false := by rw [beq_eq_false_iff_ne]; exact AB2.out hd
        have r3 : decide (0 < d) = true := decide_eq_true hd
        go_wp2_with fail
        go_quiet ((go_at_call 22; first | (with_reducible exact quiet_more (GA.out _ _)) | (with_reducible exact quiet_more (GB.out _ _))))
        go_wp2_with fail
        go_ret
        exact ⟨rfl, below_drewN hbe4 _⟩
      · have r3 : decide (0 < d) = false := decide_eq_false hd
        go_wp2_with fail
        go_quiet (fail)
        go_wp2_with fail
        go_ret
        exact ⟨rfl, below_drewN hbe4 _⟩
  · go_wp2_with fail
    go_ret
    exact ⟨rfl, hb1⟩
set_option maxRecDepth 100000 in
theorem lifted (os : Os) (started : os.Started) (H : Type) (enc : TypeId × Value → H) :
    ReturnsInHanded {} Try.checked os 9 .any (Rows.distUpSpec.pre6 enc Try.prog Try.f9 Rows.distUpRow.domain false) (Rows.distUpSpec.post enc Try.prog Try.f9 false true false false) := by
  refine returnsInHanded_of_change (C := Try.checked) own started (by kernel_rfl) Try.func9
    (ChangeSpec.witness6 (enc := enc) (C := Try.checked) false ⟨#[], #[.slice none 0 0, .int .i64 0, .int .i64 0], []⟩ 8 (by kernel_rfl) (by kernel_rfl) (by kernel_rfl) (by kernel_rfl)) ?_
  intro W base args ds gs before hval0 hW hcnd _
  have hval : ∀ (j : Nat) t v, Try.f9.params[j]? = some t → args[j]? = some v → Value.okWide Try.prog W .any base t v := hval0
  have hW' := hW
  obtain ⟨p, q, hA0, hV, rfl, hfz, hnd⟩ := hW
  have hA : DataW.TrodAll enc Try.prog W 0 (fun _ => true) true Try.f9.params.toList args.toList ds p := hA0
  rw [Try.params9] at hA hval
  obtain ⟨v0, vs0, d0, ds0, p0, q0, hargs, rfl, rfl, h0, r0⟩ := trodAll_cons hA
  obtain ⟨v1, vs1, d1, ds1, p1, q1, rfl, rfl, rfl, h1, r1⟩ := trodAll_cons r0
  obtain ⟨v2, vs2, d2, ds2, p2, q2, rfl, rfl, rfl, h2, r2⟩ := trodAll_cons r1
  obtain ⟨rfl, rfl, rfl⟩ := trodAll_nil r2
  obtain rfl : args = #[v0, v1, v2] := by cases args; simp_all
  obtain ⟨rfl, rfl⟩ := trodVars_none hV
  obtain ⟨a0, len0, cap0, rfl⟩ := okWide_slice Try.underlying22 (hval 0 22 v0 rfl rfl)
  have k0 := h0
  have lt0 : ∀ x ∈ p0, x.block < W.heap.size := by obtain ⟨m, hm⟩ := k0; exact DataW.trod_lt m _ _ _ hm
  obtain ⟨hl0, hc0, z0, hn0, hf0, hr0⟩ : len0 ≤ 9223372036854775807 ∧ (len0 ≤ cap0 ∧ cap0 ≤ 9223372036854775807) ∧ ∃ vs : List (Int × Int), vs.length = len0 ∧ Fit vs ∧ VRow W W.heap.size a0 vs := by
    obtain ⟨fuel, hf⟩ := h0
    exact open_vs (by simpa [Value.cells] using hf)
  obtain ⟨a1, rfl, rfl, rfl, w1⟩ := open_int Try.underlying3 (hval 1 3 v1 rfl rfl) h1
  obtain ⟨a2, rfl, rfl, rfl, w2⟩ := open_int Try.underlying3 (hval 2 3 v2 rfl rfl) h2
  clear hA0 hval0
  refine (walk a0 len0 cap0 z0 a1 a2 W (Lib.hid hn0) hl0 (Lib.hid hf0) hr0).mono fun e W' ⟨he, bel⟩ => ?_
  subst he
  exact ⟨_, rfl, _, _, _, [], _, [], hW', trodAll_mk1 (shut_bool Try.underlying4 _), (trodAll_cons_mk (Below.trod laidOut (by kernel_rfl) (of_decide_eq_true (by kernel_rfl)) k0 bel lt0) (trodAll_cons_mk (shut_int Try.underlying3 w1) (trodAll_cons_mk (shut_int Try.underlying3 w2) trodAll_mk0))), rfl, bel.frame _, fun h => by cases h⟩
theorem over : Rows.distUpRow.holds Try.pinned (OpenSpec.ofChange Rows.distUpSpec) :=
  OpenClaim.holds_of_wide 9 Try.f9 rfl rfl rfl rfl rfl rfl rfl ⟨rfl, rfl, rfl, rfl, rfl⟩ rfl rfl rfl rfl rfl (by kernel_rfl) Try.func9 (by kernel_rfl)
    (of_decide_eq_true (by kernel_rfl)) (by unfold Func.isWrapper; first | (rw [if_pos (by decide +kernel)]; kernel_rfl) | (rw [if_neg (by decide +kernel)]; exact ⟨rfl, rfl⟩))
    (fun os started H enc _ => lifted os started H enc)
theorem proved : Rows.DistUpSaid := over
end Go.Proofs.Ytkjcihdejileoaa.distUp

