/- BitsCounts: a set with a number more has one member more, if it hadn't, and that can be one: the call answers true and changes nothing that was there; for every input. -/
import Derived.Test.YtfkjgpfeiijnkaaDoorZShown
namespace Go.Proofs.YtfkjgpfeiijnkaaDoor.bitsCounts
open Go.ChangeShapes Go.WideShapes Go.ChangeAt Go.RowKit
set_option linter.unusedVariables false

set_option maxHeartbeats 4000000 in
theorem walk (x : Nat) (n : Int) (w : World) (hx : x < 18446744073709551616) (hT : Tab w) :
    Calls Tryd.prog 6 #[.int .u64 x, .int .i64 n] w fun e w' => e = .returned (.bool true) ∧ Below w.heap.size w w' := by
  have HT := Lib.hid hT
  have hwl := Zp.wth_lt hx n
  have HLL := Lib.hid (Zp.len_wth x n)
  obtain ⟨k, hk0⟩ : ∃ k, (Zp.mem x).length = k := ⟨_, rfl⟩
  have hk : k ≤ 64 := by rw [← hk0]; exact Zp.mem_len x
  have HK := Lib.hid hk0
  clear hk0
  clear hT
  go_enter Tryd.func6, Tryd.ntmps6
  go_wp2_with fail
  refine (shown_any _ HT.out).mono ?_
  rintro e w1 ⟨rfl, hb⟩
  have HB1 := Lib.hid hb
  have HT1 := Lib.hid (HT.out.step hb)
  clear hb
  go_wp2_with fail
  refine (count_any x _ hx).mono ?_
  rintro e w2 ⟨rfl, rfl⟩
  rw [HK.out]
  by_cases h0 : 0 ≤ n
  · by_cases h1 : n < 64
    · go_wp2_with fail
      refine (has_any x n _ hx).mono ?_
      rintro e w3 ⟨rfl, hb3⟩
      have HB3 := Lib.hid (HB1.out.trans (hb3.mono HB1.out.size))
      have HT3 := Lib.hid (HT1.out.step hb3)
      clear hb3
      cases hh : Zp.has x n
      · have HL := Lib.hid (show (Zp.mem (Zp.wth x n)).length = (Zp.mem x).length + 1 by rw [HLL.out, if_pos ⟨h0, h1, hh⟩])
        clear hh
        go_wp2_with fail
        refine (with_any x n _ hx).mono ?_
        rintro e w4 ⟨rfl, hb4⟩
        have HB4 := Lib.hid (HB3.out.trans (hb4.mono HB3.out.size))
        have HT4 := Lib.hid (HT3.out.step hb4)
        clear hb4
        go_wp2_with fail
        refine (count_any _ _ hwl).mono ?_
        rintro e w5 ⟨rfl, rfl⟩
        rw [HL.out, HK.out]
        go_wp2_with fail
        refine (all_any x _ hx HT4.out).mono ?_
        rintro e w6 hm
        obtain ⟨A, m, c, rfl, hr, hf, hb⟩ := hm.madeR
        have hlen := hr.len
        rw [HK.out] at hlen
        have HB6 := Lib.hid (HB4.out.trans (hb.mono HB4.out.size))
        have hle : (k : Int) ≤ 64 := by omega
        have hge : (0 : Int) ≤ (k : Int) := by omega
        clear hm hr hf hb
        subst hlen
        go_wp2_with fail
        go_ret
        exact ⟨rfl, HB6.out⟩
      · have HL := Lib.hid (show (Zp.mem (Zp.wth x n)).length = (Zp.mem x).length by rw [HLL.out, if_neg (by rw [hh]; simp), Nat.add_zero])
        clear hh
        go_wp2_with fail
        refine (with_any x n _ hx).mono ?_
        rintro e w4 ⟨rfl, hb4⟩
        have HB4 := Lib.hid (HB3.out.trans (hb4.mono HB3.out.size))
        have HT4 := Lib.hid (HT3.out.step hb4)
        clear hb4
        go_wp2_with fail
        refine (count_any _ _ hwl).mono ?_
        rintro e w5 ⟨rfl, rfl⟩
        rw [HL.out, HK.out]
        go_wp2_with fail
        refine (all_any x _ hx HT4.out).mono ?_
        rintro e w6 hm
        obtain ⟨A, m, c, rfl, hr, hf, hb⟩ := hm.madeR
        have hlen := hr.len
        rw [HK.out] at hlen
        have HB6 := Lib.hid (HB4.out.trans (hb.mono HB4.out.size))
        have hle : (k : Int) ≤ 64 := by omega
        have hge : (0 : Int) ≤ (k : Int) := by omega
        clear hm hr hf hb
        subst hlen
        go_wp2_with fail
        go_ret
        exact ⟨rfl, HB6.out⟩
    · have HL := Lib.hid (show (Zp.mem (Zp.wth x n)).length = (Zp.mem x).length by rw [HLL.out, if_neg (by omega), Nat.add_zero])
      go_wp2_with fail
      refine (with_any x n _ hx).mono ?_
      rintro e w4 ⟨rfl, hb4⟩
      have HB4 := Lib.hid (HB1.out.trans (hb4.mono HB1.out.size))
      have HT4 := Lib.hid (HT1.out.step hb4)
      clear hb4
      go_wp2_with fail
      refine (count_any _ _ hwl).mono ?_
      rintro e w5 ⟨rfl, rfl⟩
      rw [HL.out, HK.out]
      go_wp2_with fail
      refine (all_any x _ hx HT4.out).mono ?_
      rintro e w6 hm
      obtain ⟨A, m, c, rfl, hr, hf, hb⟩ := hm.madeR
      have hlen := hr.len
      rw [HK.out] at hlen
      have HB6 := Lib.hid (HB4.out.trans (hb.mono HB4.out.size))
      have hle : (k : Int) ≤ 64 := by omega
      have hge : (0 : Int) ≤ (k : Int) := by omega
      clear hm hr hf hb
      subst hlen
      go_wp2_with fail
      go_ret
      exact ⟨rfl, HB6.out⟩
  · have HL := Lib.hid (show (Zp.mem (Zp.wth x n)).length = (Zp.mem x).length by rw [HLL.out, if_neg (by omega), Nat.add_zero])
    go_wp2_with fail
    refine (with_any x n _ hx).mono ?_
    rintro e w4 ⟨rfl, hb4⟩
    have HB4 := Lib.hid (HB1.out.trans (hb4.mono HB1.out.size))
    have HT4 := Lib.hid (HT1.out.step hb4)
    clear hb4
    go_wp2_with fail
    refine (count_any _ _ hwl).mono ?_
    rintro e w5 ⟨rfl, rfl⟩
    rw [HL.out, HK.out]
    go_wp2_with fail
    refine (all_any x _ hx HT4.out).mono ?_
    rintro e w6 hm
    obtain ⟨A, m, c, rfl, hr, hf, hb⟩ := hm.madeR
    have hlen := hr.len
    rw [HK.out] at hlen
    have HB6 := Lib.hid (HB4.out.trans (hb.mono HB4.out.size))
    have hle : (k : Int) ≤ 64 := by omega
    have hge : (0 : Int) ≤ (k : Int) := by omega
    clear hm hr hf hb
    subst hlen
    go_wp2_with fail
    go_ret
    exact ⟨rfl, HB6.out⟩
set_option maxRecDepth 100000 in
theorem lifted (os : Os) (started : os.Started) (H : Type) (enc : TypeId × Value → H) :
    ReturnsInHanded {} Tryd.checked os 6 .any (fun w args => (Rows.bitsCountsSpec.pre enc Tryd.prog Tryd.f6 [] false w args ∧ laidMetH Tryd.prog laidList w) ∧ sizedMet enc Tryd.prog Tryd.f6 (OpenSpec.ofChange Rows.bitsCountsSpec) false w args)
      (Rows.bitsCountsSpec.post enc Tryd.prog Tryd.f6 false true false false) := by
  refine returnsInHanded_of_change_and (C := Tryd.checked) (X := fun w _ => laidMetH Tryd.prog laidList w) (fun _ _ _ hh h => h.of_heap hh) own started (by kernel_rfl) Tryd.func6
    (ChangeSpec.witness_shaped (enc := enc) (C := Tryd.checked) (os := os) (X := fun w _ => laidMetH Tryd.prog laidList w) false (World.doorLaid Tryd.prog 14 os) #[.int .u64 0, .int .i64 0] 8 rfl (World.shaped_of_RefB (by kernel_rfl) (by kernel_rfl)) (by kernel_rfl) (by kernel_rfl) (by kernel_rfl) (door_met os _)) ?_
  intro W base args ds gs before hval0 hW _ _ hL _
  have hval : ∀ (j : Nat) t v, Tryd.f6.params[j]? = some t → args[j]? = some v → Value.okWide Tryd.prog W .any base t v := hval0
  have hW' := hW
  obtain ⟨p, q, hA0, hV, rfl, hfz, hnd⟩ := hW
  have hA : DataW.TrodAll enc Tryd.prog W 0 (fun _ => true) true Tryd.f6.params.toList args.toList ds p := hA0
  rw [Tryd.params6] at hA hval
  obtain ⟨v0, vs0, d0, ds0, p0, q0, hargs, rfl, rfl, h0, r0⟩ := trodAll_cons hA
  obtain ⟨v1, vs1, d1, ds1, p1, q1, rfl, rfl, rfl, h1, r1⟩ := trodAll_cons r0
  obtain ⟨rfl, rfl, rfl⟩ := trodAll_nil r1
  obtain rfl : args = #[v0, v1] := by cases args; simp_all
  obtain ⟨rfl, rfl⟩ := trodVars_none hV
  obtain ⟨a0, rfl, rfl, rfl, w0⟩ := open_int Tryd.underlying22 (hval 0 22 v0 rfl rfl) h0
  obtain ⟨x0, rfl, b0⟩ := of_wf64 w0
  obtain ⟨a1, rfl, rfl, rfl, w1⟩ := open_int Tryd.underlying3 (hval 1 3 v1 rfl rfl) h1
  clear hA0 hval0
  refine (walk x0 a1 W b0 (tab_of_laid hL)).mono fun e W' ⟨he, bel⟩ => ?_
  subst he
  exact ⟨_, rfl, _, _, _, [], _, [], hW', trodAll_mk1 (shut_bool Tryd.underlying4 _), (trodAll_cons_mk (shut_int Tryd.underlying22 w0) (trodAll_cons_mk (shut_int Tryd.underlying3 w1) trodAll_mk0)), rfl, bel.frame _, fun h => by cases h⟩
theorem over : Rows.BitsCountsSaid :=
  OpenClaim.holds_of_wide 6 Tryd.f6 rfl rfl rfl rfl rfl rfl rfl ⟨rfl, rfl, rfl, rfl, rfl⟩ rfl rfl rfl rfl rfl (by kernel_rfl) Tryd.func6 (by kernel_rfl)
    (of_decide_eq_true (by kernel_rfl)) (by unfold Func.isWrapper; first | (rw [if_pos (by decide +kernel)]; kernel_rfl) | (rw [if_neg (by decide +kernel)]; exact ⟨rfl, rfl⟩))
    (fun os started H enc _ => lifted os started H enc)
theorem proved : Rows.BitsCountsCardSaid :=
  Claim7.holds_tied_plain_at .later [] [.data] true Rows.bitsCountsCard.stood.harness false
    over (fun _ h => by cases h) (by kernel_rfl) (fun _ h => by cases h) bitsCounts_row_tie rfl ⟨rfl, rfl⟩ (by kernel_rfl) rfl
    (fun f fn hf hfn => by
      obtain rfl : f = 6 := Option.some.inj ((show Tryd.prog.funcNamed "catafalque/catafalquelaw06.BitsCounts" = some 6 by kernel_rfl).symm.trans hf) |>.symm
      obtain rfl : fn = Tryd.f6 := (Option.some.inj (Tryd.func6.symm.trans hfn)).symm
      exact ⟨by kernel_rfl, fun j t ht => by
        rw [Tryd.params6] at ht
        have hm : t ∈ [22, 3] := by simpa using Array.mem_of_getElem? ht
        have hall : ([22, 3].all fun u => !Tryd.prog.wantsStandIn u) = true := by kernel_rfl
        exact (show Tryd.prog.wantsStandIn t = false by simpa using List.all_eq_true.1 hall t hm)⟩)
    (by kernel_rfl)
end Go.Proofs.YtfkjgpfeiijnkaaDoor.bitsCounts

