/- BitsBack: a set is that of all its members; with a number, and without it, it is without it; the other way round with it, if that can be one: the call answers true and changes nothing that was there; for every input. -/
import Derived.Test.YtfkjgpfeiijnkaaDoorZShown
namespace Go.Proofs.YtfkjgpfeiijnkaaDoor.bitsBack
open Go.ChangeShapes Go.WideShapes Go.ChangeAt Go.RowKit
set_option linter.unusedVariables false

theorem out_with {x : Nat} (hx : x < 18446744073709551616) (n : Int) : Zp.wout (Zp.wth x n) n = Zp.wout x n :=
  Zp.ext64 (Zp.wout_lt (Zp.wth_lt hx n) n) (Zp.wout_lt hx n) fun i hi => by
    rw [Zp.wout_bit (Zp.wth_lt hx n), Zp.wth_bit, Zp.wout_bit hx]
    by_cases h : (i : Int) = n <;> simp [h]
theorem with_out {x : Nat} (hx : x < 18446744073709551616) (n : Int) : Zp.wth (Zp.wout x n) n = Zp.wth x n :=
  Zp.ext64 (Zp.wth_lt (Zp.wout_lt hx n) n) (Zp.wth_lt hx n) fun i hi => by
    rw [Zp.wth_bit, Zp.wout_bit hx, Zp.wth_bit]
    by_cases h : (i : Int) = n <;> simp [h, hi]
theorem has_with (x : Nat) (n : Int) : Zp.has (Zp.wth x n) n = (decide (0 ≤ n) && decide (n < 64)) := by
  by_cases h : 0 ≤ n ∧ n < 64
  · obtain ⟨k, rfl⟩ := Int.eq_ofNat_of_zero_le h.1
    have hk : k < 64 := by omega
    rw [Zp.has_bit, Zp.wth_bit]
    simp [hk]
    omega
  · rw [Zp.has_out _ _ (by omega)]
    symm
    rw [← Bool.decide_and, decide_eq_false_iff_not]
    exact h
theorem has_out' {x : Nat} (hx : x < 18446744073709551616) (n : Int) : Zp.has (Zp.wout x n) n = false := by
  by_cases h : 0 ≤ n ∧ n < 64
  · obtain ⟨k, rfl⟩ := Int.eq_ofNat_of_zero_le h.1
    rw [Zp.has_bit, Zp.wout_bit hx]
    simp
  · rw [Zp.has_out _ _ (by omega)]
theorem with_none {x : Nat} {n : Int} (h : n < 0 ∨ 64 ≤ n) : Zp.wth x n = x := by
  unfold Zp.wth Zp.one
  rw [if_neg (by omega), Nat.or_zero]
theorem out_none {x : Nat} (hx : x < 18446744073709551616) {n : Int} (h : n < 0 ∨ 64 ≤ n) : Zp.wout x n = x :=
  Zp.ext64 (Zp.wout_lt hx n) hx fun i hi => by
    rw [Zp.wout_bit hx, decide_eq_false (by omega)]; simp
set_option maxHeartbeats 4000000 in
theorem walk (x : Nat) (n : Int) (w : World) (hx : x < 18446744073709551616) (hT : Tab w) :
    Calls Tryd.prog 4 #[.int .u64 x, .int .i64 n] w fun e w' => e = .returned (.bool true) ∧ Below w.heap.size w w' := by
  obtain ⟨y, ey⟩ : ∃ y, Zp.wth x n = y := ⟨_, rfl⟩
  obtain ⟨z, ez⟩ : ∃ z, Zp.wout x n = z := ⟨_, rfl⟩
  have hy : y < 18446744073709551616 := by rw [← ey]; exact Zp.wth_lt hx n
  have hz : z < 18446744073709551616 := by rw [← ez]; exact Zp.wout_lt hx n
  have E1 := Lib.hid ey
  have E2 := Lib.hid ez
  have E3 := Lib.hid (show Zp.wout y n = z by rw [← ey, out_with hx, ez])
  have E4 := Lib.hid (show Zp.wth z n = y by rw [← ez, with_out hx, ey])
  have E6 := Lib.hid (show Zp.has z n = false by rw [← ez, has_out' hx])
  have EM := Lib.hid (Zp.ofL_mem hx)
  have EH := Lib.hid (show Zp.has y n = (decide (0 ≤ n) && decide (n < 64)) by rw [← ey, has_with])
  clear ey ez
  go_enter Tryd.func4, Tryd.ntmps4
  go_wp2_with fail
  refine (shown_any _ hT).mono ?_
  rintro e w1 ⟨rfl, hb⟩
  have HB := Lib.hid hb
  have HT := Lib.hid (hT.step hb)
  clear hb hT
  by_cases h0 : 0 ≤ n
  · by_cases h1 : n < 64
    · have E5 := Lib.hid (show Zp.has y n = true by rw [EH.out, decide_eq_true h0, decide_eq_true h1]; rfl)
      go_wp2_with fail
      refine (all_any x _ hx HT.out).mono ?_
      rintro e w2 hm
      obtain ⟨A, m, c, rfl, hr, hf, hb⟩ := hm.madeR
      have HR := Lib.hid hr
      clear hm hr hf
      replace HB := Lib.hid (HB.out.trans (hb.mono HB.out.size))
      clear hb
      go_wp2_with fail
      refine (of_any A m c _ _ HR.out).mono ?_
      rintro e w3 ⟨rfl, rfl⟩
      rw [EM.out]
      go_wp2_with fail
      refine (with_any x n _ hx).mono ?_
      rintro e w4 ⟨rfl, hb⟩
      rw [E1.out]
      replace HB := Lib.hid (HB.out.trans (hb.mono HB.out.size))
      clear hb
      go_wp2_with fail
      refine (without_any y n _ hy).mono ?_
      rintro e w5 ⟨rfl, hb⟩
      rw [E3.out]
      replace HB := Lib.hid (HB.out.trans (hb.mono HB.out.size))
      clear hb
      go_wp2_with fail
      refine (without_any x n _ hx).mono ?_
      rintro e w6 ⟨rfl, hb⟩
      rw [E2.out]
      replace HB := Lib.hid (HB.out.trans (hb.mono HB.out.size))
      clear hb
      go_wp2_with fail
      refine (without_any x n _ hx).mono ?_
      rintro e w7 ⟨rfl, hb⟩
      rw [E2.out]
      replace HB := Lib.hid (HB.out.trans (hb.mono HB.out.size))
      clear hb
      go_wp2_with fail
      refine (with_any z n _ hz).mono ?_
      rintro e w8 ⟨rfl, hb⟩
      rw [E4.out]
      replace HB := Lib.hid (HB.out.trans (hb.mono HB.out.size))
      clear hb
      go_wp2_with fail
      refine (with_any x n _ hx).mono ?_
      rintro e w9 ⟨rfl, hb⟩
      rw [E1.out]
      replace HB := Lib.hid (HB.out.trans (hb.mono HB.out.size))
      clear hb
      go_wp2_with fail
      refine (with_any x n _ hx).mono ?_
      rintro e w10 ⟨rfl, hb⟩
      rw [E1.out]
      replace HB := Lib.hid (HB.out.trans (hb.mono HB.out.size))
      clear hb
      go_wp2_with fail
      refine (has_any y n _ hy).mono ?_
      rintro e w11 ⟨rfl, hb⟩
      rw [E5.out]
      replace HB := Lib.hid (HB.out.trans (hb.mono HB.out.size))
      clear hb
      go_wp2_with fail
      refine (without_any x n _ hx).mono ?_
      rintro e w12 ⟨rfl, hb⟩
      rw [E2.out]
      replace HB := Lib.hid (HB.out.trans (hb.mono HB.out.size))
      clear hb
      go_wp2_with fail
      refine (has_any z n _ hz).mono ?_
      rintro e w13 ⟨rfl, hb⟩
      rw [E6.out]
      replace HB := Lib.hid (HB.out.trans (hb.mono HB.out.size))
      clear hb
      go_wp2_with fail
      · exfalso; rename_i hun _ _ _; cases hun
      · exfalso; rename_i hun _; cases hun
      · go_ret
        exact ⟨rfl, HB.out⟩
    · have E5 := Lib.hid (show Zp.has y n = false by rw [EH.out, decide_eq_false h1, Bool.and_false])
      have EY := Lib.hid (show Zp.wth x n = x from with_none (by omega))
      have EZ := Lib.hid (show Zp.wout x n = x from out_none hx (by omega))
      obtain rfl : x = y := EY.out.symm.trans E1.out
      obtain rfl : x = z := EZ.out.symm.trans E2.out
      go_wp2_with fail
      refine (all_any x _ hx HT.out).mono ?_
      rintro e w2 hm
      obtain ⟨A, m, c, rfl, hr, hf, hb⟩ := hm.madeR
      have HR := Lib.hid hr
      clear hm hr hf
      replace HB := Lib.hid (HB.out.trans (hb.mono HB.out.size))
      clear hb
      go_wp2_with fail
      refine (of_any A m c _ _ HR.out).mono ?_
      rintro e w3 ⟨rfl, rfl⟩
      rw [EM.out]
      go_wp2_with fail
      refine (with_any x n _ hx).mono ?_
      rintro e w4 ⟨rfl, hb⟩
      rw [E1.out]
      replace HB := Lib.hid (HB.out.trans (hb.mono HB.out.size))
      clear hb
      go_wp2_with fail
      refine (without_any x n _ hy).mono ?_
      rintro e w5 ⟨rfl, hb⟩
      rw [E3.out]
      replace HB := Lib.hid (HB.out.trans (hb.mono HB.out.size))
      clear hb
      go_wp2_with fail
      refine (without_any x n _ hx).mono ?_
      rintro e w6 ⟨rfl, hb⟩
      rw [E2.out]
      replace HB := Lib.hid (HB.out.trans (hb.mono HB.out.size))
      clear hb
      go_wp2_with fail
      refine (without_any x n _ hx).mono ?_
      rintro e w7 ⟨rfl, hb⟩
      rw [E2.out]
      replace HB := Lib.hid (HB.out.trans (hb.mono HB.out.size))
      clear hb
      go_wp2_with fail
      refine (with_any x n _ hz).mono ?_
      rintro e w8 ⟨rfl, hb⟩
      rw [E4.out]
      replace HB := Lib.hid (HB.out.trans (hb.mono HB.out.size))
      clear hb
      go_wp2_with fail
      refine (with_any x n _ hx).mono ?_
      rintro e w9 ⟨rfl, hb⟩
      rw [E1.out]
      replace HB := Lib.hid (HB.out.trans (hb.mono HB.out.size))
      clear hb
      go_wp2_with fail
      refine (with_any x n _ hx).mono ?_
      rintro e w10 ⟨rfl, hb⟩
      rw [E1.out]
      replace HB := Lib.hid (HB.out.trans (hb.mono HB.out.size))
      clear hb
      go_wp2_with fail
      refine (has_any x n _ hy).mono ?_
      rintro e w11 ⟨rfl, hb⟩
      rw [E5.out]
      replace HB := Lib.hid (HB.out.trans (hb.mono HB.out.size))
      clear hb
      go_wp2_with fail
      refine (without_any x n _ hx).mono ?_
      rintro e w12 ⟨rfl, hb⟩
      rw [E2.out]
      replace HB := Lib.hid (HB.out.trans (hb.mono HB.out.size))
      clear hb
      go_wp2_with fail
      refine (has_any x n _ hz).mono ?_
      rintro e w13 ⟨rfl, hb⟩
      rw [E6.out]
      replace HB := Lib.hid (HB.out.trans (hb.mono HB.out.size))
      clear hb
      go_wp2_with fail
      refine (with_any x n _ hx).mono ?_
      rintro e w14 ⟨rfl, hb⟩
      rw [E1.out]
      replace HB := Lib.hid (HB.out.trans (hb.mono HB.out.size))
      clear hb
      go_wp2_with fail
      refine (without_any x n _ hx).mono ?_
      rintro e w15 ⟨rfl, hb⟩
      rw [E2.out]
      replace HB := Lib.hid (HB.out.trans (hb.mono HB.out.size))
      clear hb
      go_wp2_with fail
      go_ret
      exact ⟨ret_bool (by simp; omega), HB.out⟩
  · have E5 := Lib.hid (show Zp.has y n = false by rw [EH.out, decide_eq_false h0, Bool.false_and])
    have EY := Lib.hid (show Zp.wth x n = x from with_none (by omega))
    have EZ := Lib.hid (show Zp.wout x n = x from out_none hx (by omega))
    obtain rfl : x = y := EY.out.symm.trans E1.out
    obtain rfl : x = z := EZ.out.symm.trans E2.out
    go_wp2_with fail
    refine (all_any x _ hx HT.out).mono ?_
    rintro e w2 hm
    obtain ⟨A, m, c, rfl, hr, hf, hb⟩ := hm.madeR
    have HR := Lib.hid hr
    clear hm hr hf
    replace HB := Lib.hid (HB.out.trans (hb.mono HB.out.size))
    clear hb
    go_wp2_with fail
    refine (of_any A m c _ _ HR.out).mono ?_
    rintro e w3 ⟨rfl, rfl⟩
    rw [EM.out]
    go_wp2_with fail
    refine (with_any x n _ hx).mono ?_
    rintro e w4 ⟨rfl, hb⟩
    rw [E1.out]
    replace HB := Lib.hid (HB.out.trans (hb.mono HB.out.size))
    clear hb
    go_wp2_with fail
    refine (without_any x n _ hy).mono ?_
    rintro e w5 ⟨rfl, hb⟩
    rw [E3.out]
    replace HB := Lib.hid (HB.out.trans (hb.mono HB.out.size))
    clear hb
    go_wp2_with fail
    refine (without_any x n _ hx).mono ?_
    rintro e w6 ⟨rfl, hb⟩
    rw [E2.out]
    replace HB := Lib.hid (HB.out.trans (hb.mono HB.out.size))
    clear hb
    go_wp2_with fail
    refine (without_any x n _ hx).mono ?_
    rintro e w7 ⟨rfl, hb⟩
    rw [E2.out]
    replace HB := Lib.hid (HB.out.trans (hb.mono HB.out.size))
    clear hb
    go_wp2_with fail
    refine (with_any x n _ hz).mono ?_
    rintro e w8 ⟨rfl, hb⟩
    rw [E4.out]
    replace HB := Lib.hid (HB.out.trans (hb.mono HB.out.size))
    clear hb
    go_wp2_with fail
    refine (with_any x n _ hx).mono ?_
    rintro e w9 ⟨rfl, hb⟩
    rw [E1.out]
    replace HB := Lib.hid (HB.out.trans (hb.mono HB.out.size))
    clear hb
    go_wp2_with fail
    refine (with_any x n _ hx).mono ?_
    rintro e w10 ⟨rfl, hb⟩
    rw [E1.out]
    replace HB := Lib.hid (HB.out.trans (hb.mono HB.out.size))
    clear hb
    go_wp2_with fail
    refine (has_any x n _ hy).mono ?_
    rintro e w11 ⟨rfl, hb⟩
    rw [E5.out]
    replace HB := Lib.hid (HB.out.trans (hb.mono HB.out.size))
    clear hb
    go_wp2_with fail
    refine (without_any x n _ hx).mono ?_
    rintro e w12 ⟨rfl, hb⟩
    rw [E2.out]
    replace HB := Lib.hid (HB.out.trans (hb.mono HB.out.size))
    clear hb
    go_wp2_with fail
    refine (has_any x n _ hz).mono ?_
    rintro e w13 ⟨rfl, hb⟩
    rw [E6.out]
    replace HB := Lib.hid (HB.out.trans (hb.mono HB.out.size))
    clear hb
    go_wp2_with fail
    refine (with_any x n _ hx).mono ?_
    rintro e w14 ⟨rfl, hb⟩
    rw [E1.out]
    replace HB := Lib.hid (HB.out.trans (hb.mono HB.out.size))
    clear hb
    go_wp2_with fail
    refine (without_any x n _ hx).mono ?_
    rintro e w15 ⟨rfl, hb⟩
    rw [E2.out]
    replace HB := Lib.hid (HB.out.trans (hb.mono HB.out.size))
    clear hb
    go_wp2_with fail
    go_ret
    exact ⟨rfl, HB.out⟩
set_option maxRecDepth 100000 in
theorem lifted (os : Os) (started : os.Started) (H : Type) (enc : TypeId × Value → H) :
    ReturnsInHanded {} Tryd.checked os 4 .any (fun w args => (Rows.bitsBackSpec.pre enc Tryd.prog Tryd.f4 [] false w args ∧ laidMetH Tryd.prog laidList w) ∧ sizedMet enc Tryd.prog Tryd.f4 (OpenSpec.ofChange Rows.bitsBackSpec) false w args)
      (Rows.bitsBackSpec.post enc Tryd.prog Tryd.f4 false true false false) := by
  refine returnsInHanded_of_change_and (C := Tryd.checked) (X := fun w _ => laidMetH Tryd.prog laidList w) (fun _ _ _ hh h => h.of_heap hh) own started (by kernel_rfl) Tryd.func4
    (ChangeSpec.witness_shaped (enc := enc) (C := Tryd.checked) (os := os) (X := fun w _ => laidMetH Tryd.prog laidList w) false (World.doorLaid Tryd.prog 14 os) #[.int .u64 0, .int .i64 0] 8 rfl (World.shaped_of_RefB (by kernel_rfl) (by kernel_rfl)) (by kernel_rfl) (by kernel_rfl) (by kernel_rfl) (door_met os _)) ?_
  intro W base args ds gs before hval0 hW _ _ hL _
  have hval : ∀ (j : Nat) t v, Tryd.f4.params[j]? = some t → args[j]? = some v → Value.okWide Tryd.prog W .any base t v := hval0
  have hW' := hW
  obtain ⟨p, q, hA0, hV, rfl, hfz, hnd⟩ := hW
  have hA : DataW.TrodAll enc Tryd.prog W 0 (fun _ => true) true Tryd.f4.params.toList args.toList ds p := hA0
  rw [Tryd.params4] at hA hval
  obtain ⟨v0, vs0, d0, ds0, p0, q0, hargs, rfl, rfl, h0, r0⟩ := trodAll_cons hA
  obtain ⟨v1, vs1, d1, ds1, p1, q1, rfl, rfl, rfl, h1, r1⟩ := trodAll_cons r0
  obtain ⟨rfl, rfl, rfl⟩ := trodAll_nil r1
  obtain rfl : args = #[v0, v1] := by cases args; simp_all
  obtain ⟨rfl, rfl⟩ := trodVars_none hV
  obtain ⟨a0, rfl, rfl, rfl, w0⟩ := open_int Tryd.underlying22 (hval 0 22 v0 rfl rfl) h0
  obtain ⟨x0, rfl, b0⟩ := of_wf64 w0
  obtain ⟨a1, rfl, rfl, rfl, w1⟩ := open_int Tryd.underlying3 (hval 1 3 v1 rfl rfl) h1
  clear hA0 hval0
  refine (walk x0 a1 W b0 (tab_of_laid hL)).mono fun e W' ⟨he, bel⟩ => ?_
  subst he
  exact ⟨_, rfl, _, _, _, [], _, [], hW', trodAll_mk1 (shut_bool Tryd.underlying4 _), (trodAll_cons_mk (shut_int Tryd.underlying22 w0) (trodAll_cons_mk (shut_int Tryd.underlying3 w1) trodAll_mk0)), rfl, bel.frame _, fun h => by cases h⟩
theorem over : Rows.BitsBackSaid :=
  OpenClaim.holds_of_wide 4 Tryd.f4 rfl rfl rfl rfl rfl rfl rfl ⟨rfl, rfl, rfl, rfl, rfl⟩ rfl rfl rfl rfl rfl (by kernel_rfl) Tryd.func4 (by kernel_rfl)
    (of_decide_eq_true (by kernel_rfl)) (by unfold Func.isWrapper; first | (rw [if_pos (by decide +kernel)]; kernel_rfl) | (rw [if_neg (by decide +kernel)]; exact ⟨rfl, rfl⟩))
    (fun os started H enc _ => lifted os started H enc)
theorem proved : Rows.BitsBackCardSaid :=
  Claim7.holds_tied_plain_at .later [] [.data] true Rows.bitsBackCard.stood.harness false
    over (fun _ h => by cases h) (by kernel_rfl) (fun _ h => by cases h) bitsBack_row_tie rfl ⟨rfl, rfl⟩ (by kernel_rfl) rfl
    (fun f fn hf hfn => by
      obtain rfl : f = 4 := Option.some.inj ((show Tryd.prog.funcNamed "catafalque/catafalquelaw06.BitsBack" = some 4 by kernel_rfl).symm.trans hf) |>.symm
      obtain rfl : fn = Tryd.f4 := (Option.some.inj (Tryd.func4.symm.trans hfn)).symm
      exact ⟨by kernel_rfl, fun j t ht => by
        rw [Tryd.params4] at ht
        have hm : t ∈ [22, 3] := by simpa using Array.mem_of_getElem? ht
        have hall : ([22, 3].all fun u => !Tryd.prog.wantsStandIn u) = true := by kernel_rfl
        exact (show Tryd.prog.wantsStandIn t = false by simpa using List.all_eq_true.1 hall t hm)⟩)
    (by kernel_rfl)
end Go.Proofs.YtfkjgpfeiijnkaaDoor.bitsBack

