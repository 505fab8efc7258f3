/- BitsJoins: two sets joined have the members of both; what both have, those of either that the other one has: the call answers true and changes nothing that was there; for every input. -/
import Derived.Test.YtfkjgpfeiijnkaaDoorZShown
namespace Go.Proofs.YtfkjgpfeiijnkaaDoor.bitsJoins
open Go.ChangeShapes Go.WideShapes Go.ChangeAt Go.RowKit
set_option linter.unusedVariables false

theorem has_or (x y : Nat) (n : Int) : Zp.has (x ||| y) n = (Zp.has x n || Zp.has y n) := by
  by_cases h : 0 ≤ n ∧ n < 64
  · obtain ⟨k, rfl⟩ := Int.eq_ofNat_of_zero_le h.1
    rw [Zp.has_bit, Zp.has_bit, Zp.has_bit, Nat.testBit_or, Bool.and_or_distrib_left]
  · rw [Zp.has_out _ _ (by omega), Zp.has_out _ _ (by omega), Zp.has_out _ _ (by omega)]; rfl
theorem has_and' (x y : Nat) (n : Int) : Zp.has (x &&& y) n = (Zp.has x n && Zp.has y n) := by
  by_cases h : 0 ≤ n ∧ n < 64
  · obtain ⟨k, rfl⟩ := Int.eq_ofNat_of_zero_le h.1
    rw [Zp.has_bit, Zp.has_bit, Zp.has_bit, Nat.testBit_and]
    cases decide (k < 64) <;> simp
  · rw [Zp.has_out _ _ (by omega), Zp.has_out _ _ (by omega), Zp.has_out _ _ (by omega)]; rfl
set_option maxHeartbeats 4000000 in
theorem walk (x y : Nat) (n : Int) (w : World) (hx : x < 18446744073709551616) (hy : y < 18446744073709551616) (hT : Tab w) :
    Calls Tryd.prog 7 #[.int .u64 x, .int .u64 y, .int .i64 n] w fun e w' => e = .returned (.bool true) ∧ Below w.heap.size w w' := by
  have ko : bits .or .u64 (x : Int) (y : Int) = ((x ||| y : Nat) : Int) := bits_or_u64_nat x y hx hy
  have ka : bits .and .u64 (x : Int) (y : Int) = ((x &&& y : Nat) : Int) := bits_and_u64_nat x y hx hy
  have ho : (x ||| y) < 18446744073709551616 := Zp.or_lt hx hy
  have ha : (x &&& y) < 18446744073709551616 := Zp.and_lt hx
  obtain ⟨c1, h1⟩ : ∃ c, (Zp.mem (x ||| y)).length = c := ⟨_, rfl⟩
  obtain ⟨c2, h2⟩ : ∃ c, (Zp.mem (x &&& y)).length = c := ⟨_, rfl⟩
  obtain ⟨c3, h3⟩ : ∃ c, (Zp.mem x).length = c := ⟨_, rfl⟩
  obtain ⟨c4, h4⟩ : ∃ c, (Zp.mem y).length = c := ⟨_, rfl⟩
  have b1 := Zp.mem_len (x ||| y)
  have b2 := Zp.mem_len (x &&& y)
  have b3 := Zp.mem_len x
  have b4 := Zp.mem_len y
  have hs := Zp.len_joins x y
  rw [h1] at b1 hs
  rw [h2] at b2 hs
  rw [h3] at b3 hs
  rw [h4] at b4 hs
  have HS := Lib.hid (show (c1 : Int) + (c2 : Int) = (c3 : Int) + (c4 : Int) by omega)
  have H1 := Lib.hid h1
  have H2 := Lib.hid h2
  have H3 := Lib.hid h3
  have H4 := Lib.hid h4
  have HO := has_or x y n
  have HA := has_and' x y n
  clear hs h1 h2 h3 h4
  go_enter Tryd.func7, Tryd.ntmps7
  go_wp2_with fail
  refine (shown_any _ hT).mono ?_
  rintro e w1 ⟨rfl, hb⟩
  have HB := Lib.hid hb
  clear hb hT
  cases hxn : Zp.has x n
  · have EX := Lib.hid hxn
    cases hyn : Zp.has y n
    · have EY := Lib.hid hyn
      have EO := Lib.hid (show Zp.has (x ||| y) n = false by rw [HO, hxn, hyn]; rfl)
      have EA := Lib.hid (show Zp.has (x &&& y) n = false by rw [HA, hxn, hyn]; rfl)
      clear hxn hyn HO HA
      go_wp2_with fail
      refine (has_any (x ||| y) n _ ho).mono ?_
      rintro e w2 ⟨rfl, hb⟩
      rw [EO.out]
      replace HB := Lib.hid (HB.out.trans (hb.mono HB.out.size))
      clear hb
      go_wp2_with fail
      refine (has_any x n _ hx).mono ?_
      rintro e w3 ⟨rfl, hb⟩
      rw [EX.out]
      replace HB := Lib.hid (HB.out.trans (hb.mono HB.out.size))
      clear hb
      go_wp2_with fail
      refine (has_any y n _ hy).mono ?_
      rintro e w4 ⟨rfl, hb⟩
      rw [EY.out]
      replace HB := Lib.hid (HB.out.trans (hb.mono HB.out.size))
      clear hb
      go_wp2_with fail
      refine (has_any (x &&& y) n _ ha).mono ?_
      rintro e w5 ⟨rfl, hb⟩
      rw [EA.out]
      replace HB := Lib.hid (HB.out.trans (hb.mono HB.out.size))
      clear hb
      go_wp2_with fail
      refine (has_any x n _ hx).mono ?_
      rintro e w6 ⟨rfl, hb⟩
      rw [EX.out]
      replace HB := Lib.hid (HB.out.trans (hb.mono HB.out.size))
      clear hb
      go_wp2_with fail
      refine (count_any (x ||| y) _ ho).mono ?_
      rintro e w7 ⟨rfl, rfl⟩
      go_wp2_with fail
      refine (count_any (x &&& y) _ ha).mono ?_
      rintro e w8 ⟨rfl, rfl⟩
      go_wp2_with fail
      refine (count_any x _ hx).mono ?_
      rintro e w9 ⟨rfl, rfl⟩
      go_wp2_with fail
      refine (count_any y _ hy).mono ?_
      rintro e w10 ⟨rfl, rfl⟩
      rw [H1.out, H2.out, H3.out, H4.out]
      go_wp2_with fail
      go_ret
      refine ⟨ret_bool ?_, HB.out⟩
      rw [beq_iff_eq, IntWalk.wrap64_in _ ⟨by omega, by omega⟩]; exact HS.out
    · have EY := Lib.hid hyn
      have EO := Lib.hid (show Zp.has (x ||| y) n = true by rw [HO, hxn, hyn]; rfl)
      have EA := Lib.hid (show Zp.has (x &&& y) n = false by rw [HA, hxn, hyn]; rfl)
      clear hxn hyn HO HA
      go_wp2_with fail
      refine (has_any (x ||| y) n _ ho).mono ?_
      rintro e w2 ⟨rfl, hb⟩
      rw [EO.out]
      replace HB := Lib.hid (HB.out.trans (hb.mono HB.out.size))
      clear hb
      go_wp2_with fail
      refine (has_any x n _ hx).mono ?_
      rintro e w3 ⟨rfl, hb⟩
      rw [EX.out]
      replace HB := Lib.hid (HB.out.trans (hb.mono HB.out.size))
      clear hb
      go_wp2_with fail
      refine (has_any y n _ hy).mono ?_
      rintro e w4 ⟨rfl, hb⟩
      rw [EY.out]
      replace HB := Lib.hid (HB.out.trans (hb.mono HB.out.size))
      clear hb
      go_wp2_with fail
      refine (has_any (x &&& y) n _ ha).mono ?_
      rintro e w5 ⟨rfl, hb⟩
      rw [EA.out]
      replace HB := Lib.hid (HB.out.trans (hb.mono HB.out.size))
      clear hb
      go_wp2_with fail
      refine (has_any x n _ hx).mono ?_
      rintro e w6 ⟨rfl, hb⟩
      rw [EX.out]
      replace HB := Lib.hid (HB.out.trans (hb.mono HB.out.size))
      clear hb
      go_wp2_with fail
      refine (count_any (x ||| y) _ ho).mono ?_
      rintro e w7 ⟨rfl, rfl⟩
      go_wp2_with fail
      refine (count_any (x &&& y) _ ha).mono ?_
      rintro e w8 ⟨rfl, rfl⟩
      go_wp2_with fail
      refine (count_any x _ hx).mono ?_
      rintro e w9 ⟨rfl, rfl⟩
      go_wp2_with fail
      refine (count_any y _ hy).mono ?_
      rintro e w10 ⟨rfl, rfl⟩
      rw [H1.out, H2.out, H3.out, H4.out]
      go_wp2_with fail
      go_ret
      refine ⟨ret_bool ?_, HB.out⟩
      rw [beq_iff_eq, IntWalk.wrap64_in _ ⟨by omega, by omega⟩]; exact HS.out
  · have EX := Lib.hid hxn
    cases hyn : Zp.has y n
    · have EY := Lib.hid hyn
      have EO := Lib.hid (show Zp.has (x ||| y) n = true by rw [HO, hxn, hyn]; rfl)
      have EA := Lib.hid (show Zp.has (x &&& y) n = false by rw [HA, hxn, hyn]; rfl)
      clear hxn hyn HO HA
      go_wp2_with fail
      refine (has_any (x ||| y) n _ ho).mono ?_
      rintro e w2 ⟨rfl, hb⟩
      rw [EO.out]
      replace HB := Lib.hid (HB.out.trans (hb.mono HB.out.size))
      clear hb
      go_wp2_with fail
      refine (has_any x n _ hx).mono ?_
      rintro e w3 ⟨rfl, hb⟩
      rw [EX.out]
      replace HB := Lib.hid (HB.out.trans (hb.mono HB.out.size))
      clear hb
      go_wp2_with fail
      refine (has_any (x &&& y) n _ ha).mono ?_
      rintro e w4 ⟨rfl, hb⟩
      rw [EA.out]
      replace HB := Lib.hid (HB.out.trans (hb.mono HB.out.size))
      clear hb
      go_wp2_with fail
      refine (has_any x n _ hx).mono ?_
      rintro e w5 ⟨rfl, hb⟩
      rw [EX.out]
      replace HB := Lib.hid (HB.out.trans (hb.mono HB.out.size))
      clear hb
      go_wp2_with fail
      refine (has_any y n _ hy).mono ?_
      rintro e w6 ⟨rfl, hb⟩
      rw [EY.out]
      replace HB := Lib.hid (HB.out.trans (hb.mono HB.out.size))
      clear hb
      go_wp2_with fail
      refine (count_any (x ||| y) _ ho).mono ?_
      rintro e w7 ⟨rfl, rfl⟩
      go_wp2_with fail
      refine (count_any (x &&& y) _ ha).mono ?_
      rintro e w8 ⟨rfl, rfl⟩
      go_wp2_with fail
      refine (count_any x _ hx).mono ?_
      rintro e w9 ⟨rfl, rfl⟩
      go_wp2_with fail
      refine (count_any y _ hy).mono ?_
      rintro e w10 ⟨rfl, rfl⟩
      rw [H1.out, H2.out, H3.out, H4.out]
      go_wp2_with fail
      go_ret
      refine ⟨ret_bool ?_, HB.out⟩
      rw [beq_iff_eq, IntWalk.wrap64_in _ ⟨by omega, by omega⟩]; exact HS.out
    · have EY := Lib.hid hyn
      have EO := Lib.hid (show Zp.has (x ||| y) n = true by rw [HO, hxn, hyn]; rfl)
      have EA := Lib.hid (show Zp.has (x &&& y) n = true by rw [HA, hxn, hyn]; rfl)
      clear hxn hyn HO HA
      go_wp2_with fail
      refine (has_any (x ||| y) n _ ho).mono ?_
      rintro e w2 ⟨rfl, hb⟩
      rw [EO.out]
      replace HB := Lib.hid (HB.out.trans (hb.mono HB.out.size))
      clear hb
      go_wp2_with fail
      refine (has_any x n _ hx).mono ?_
      rintro e w3 ⟨rfl, hb⟩
      rw [EX.out]
      replace HB := Lib.hid (HB.out.trans (hb.mono HB.out.size))
      clear hb
      go_wp2_with fail
      refine (has_any (x &&& y) n _ ha).mono ?_
      rintro e w4 ⟨rfl, hb⟩
      rw [EA.out]
      replace HB := Lib.hid (HB.out.trans (hb.mono HB.out.size))
      clear hb
      go_wp2_with fail
      refine (has_any x n _ hx).mono ?_
      rintro e w5 ⟨rfl, hb⟩
      rw [EX.out]
      replace HB := Lib.hid (HB.out.trans (hb.mono HB.out.size))
      clear hb
      go_wp2_with fail
      refine (has_any y n _ hy).mono ?_
      rintro e w6 ⟨rfl, hb⟩
      rw [EY.out]
      replace HB := Lib.hid (HB.out.trans (hb.mono HB.out.size))
      clear hb
      go_wp2_with fail
      refine (count_any (x ||| y) _ ho).mono ?_
      rintro e w7 ⟨rfl, rfl⟩
      go_wp2_with fail
      refine (count_any (x &&& y) _ ha).mono ?_
      rintro e w8 ⟨rfl, rfl⟩
      go_wp2_with fail
      refine (count_any x _ hx).mono ?_
      rintro e w9 ⟨rfl, rfl⟩
      go_wp2_with fail
      refine (count_any y _ hy).mono ?_
      rintro e w10 ⟨rfl, rfl⟩
      rw [H1.out, H2.out, H3.out, H4.out]
      go_wp2_with fail
      go_ret
      refine ⟨ret_bool ?_, HB.out⟩
      rw [beq_iff_eq, IntWalk.wrap64_in _ ⟨by omega, by omega⟩]; exact HS.out
set_option maxRecDepth 100000 in
theorem lifted (os : Os) (started : os.Started) (H : Type) (enc : TypeId × Value → H) :
    ReturnsInHanded {} Tryd.checked os 7 .any (fun w args => (Rows.bitsJoinsSpec.pre enc Tryd.prog Tryd.f7 [] false w args ∧ laidMetH Tryd.prog laidList w) ∧ sizedMet enc Tryd.prog Tryd.f7 (OpenSpec.ofChange Rows.bitsJoinsSpec) false w args)
      (Rows.bitsJoinsSpec.post enc Tryd.prog Tryd.f7 false true false false) := by
  refine returnsInHanded_of_change_and (C := Tryd.checked) (X := fun w _ => laidMetH Tryd.prog laidList w) (fun _ _ _ hh h => h.of_heap hh) own started (by kernel_rfl) Tryd.func7
    (ChangeSpec.witness_shaped (enc := enc) (C := Tryd.checked) (os := os) (X := fun w _ => laidMetH Tryd.prog laidList w) false (World.doorLaid Tryd.prog 14 os) #[.int .u64 0, .int .u64 0, .int .i64 0] 8 rfl (World.shaped_of_RefB (by kernel_rfl) (by kernel_rfl)) (by kernel_rfl) (by kernel_rfl) (by kernel_rfl) (door_met os _)) ?_
  intro W base args ds gs before hval0 hW _ _ hL _
  have hval : ∀ (j : Nat) t v, Tryd.f7.params[j]? = some t → args[j]? = some v → Value.okWide Tryd.prog W .any base t v := hval0
  have hW' := hW
  obtain ⟨p, q, hA0, hV, rfl, hfz, hnd⟩ := hW
  have hA : DataW.TrodAll enc Tryd.prog W 0 (fun _ => true) true Tryd.f7.params.toList args.toList ds p := hA0
  rw [Tryd.params7] at hA hval
  obtain ⟨v0, vs0, d0, ds0, p0, q0, hargs, rfl, rfl, h0, r0⟩ := trodAll_cons hA
  obtain ⟨v1, vs1, d1, ds1, p1, q1, rfl, rfl, rfl, h1, r1⟩ := trodAll_cons r0
  obtain ⟨v2, vs2, d2, ds2, p2, q2, rfl, rfl, rfl, h2, r2⟩ := trodAll_cons r1
  obtain ⟨rfl, rfl, rfl⟩ := trodAll_nil r2
  obtain rfl : args = #[v0, v1, v2] := by cases args; simp_all
  obtain ⟨rfl, rfl⟩ := trodVars_none hV
  obtain ⟨a0, rfl, rfl, rfl, w0⟩ := open_int Tryd.underlying22 (hval 0 22 v0 rfl rfl) h0
  obtain ⟨x0, rfl, b0⟩ := of_wf64 w0
  obtain ⟨a1, rfl, rfl, rfl, w1⟩ := open_int Tryd.underlying22 (hval 1 22 v1 rfl rfl) h1
  obtain ⟨x1, rfl, b1⟩ := of_wf64 w1
  obtain ⟨a2, rfl, rfl, rfl, w2⟩ := open_int Tryd.underlying3 (hval 2 3 v2 rfl rfl) h2
  clear hA0 hval0
  refine (walk x0 x1 a2 W b0 b1 (tab_of_laid hL)).mono fun e W' ⟨he, bel⟩ => ?_
  subst he
  exact ⟨_, rfl, _, _, _, [], _, [], hW', trodAll_mk1 (shut_bool Tryd.underlying4 _), (trodAll_cons_mk (shut_int Tryd.underlying22 w0) (trodAll_cons_mk (shut_int Tryd.underlying22 w1) (trodAll_cons_mk (shut_int Tryd.underlying3 w2) trodAll_mk0))), rfl, bel.frame _, fun h => by cases h⟩
theorem over : Rows.BitsJoinsSaid :=
  OpenClaim.holds_of_wide 7 Tryd.f7 rfl rfl rfl rfl rfl rfl rfl ⟨rfl, rfl, rfl, rfl, rfl⟩ rfl rfl rfl rfl rfl (by kernel_rfl) Tryd.func7 (by kernel_rfl)
    (of_decide_eq_true (by kernel_rfl)) (by unfold Func.isWrapper; first | (rw [if_pos (by decide +kernel)]; kernel_rfl) | (rw [if_neg (by decide +kernel)]; exact ⟨rfl, rfl⟩))
    (fun os started H enc _ => lifted os started H enc)
theorem proved : Rows.BitsJoinsCardSaid :=
  Claim7.holds_tied_plain_at .later [] [.data] true Rows.bitsJoinsCard.stood.harness false
    over (fun _ h => by cases h) (by kernel_rfl) (fun _ h => by cases h) bitsJoins_row_tie rfl ⟨rfl, rfl⟩ (by kernel_rfl) rfl
    (fun f fn hf hfn => by
      obtain rfl : f = 7 := Option.some.inj ((show Tryd.prog.funcNamed "catafalque/catafalquelaw06.BitsJoins" = some 7 by kernel_rfl).symm.trans hf) |>.symm
      obtain rfl : fn = Tryd.f7 := (Option.some.inj (Tryd.func7.symm.trans hfn)).symm
      exact ⟨by kernel_rfl, fun j t ht => by
        rw [Tryd.params7] at ht
        have hm : t ∈ [22, 22, 3] := by simpa using Array.mem_of_getElem? ht
        have hall : ([22, 22, 3].all fun u => !Tryd.prog.wantsStandIn u) = true := by kernel_rfl
        exact (show Tryd.prog.wantsStandIn t = false by simpa using List.all_eq_true.1 hall t hm)⟩)
    (by kernel_rfl)
end Go.Proofs.YtfkjgpfeiijnkaaDoor.bitsJoins

