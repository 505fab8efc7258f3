/- CodeTexts: any program's text, any text's program, and any instruction's name, are the document's: the call answers true and changes nothing that was there; for every input. -/
import Derived.Test.YtejhlenckdkonaaDoorCShown
import Derived.Test.YtejhlenckdkonaaDoorCFrame
namespace Go.Proofs.YtejhlenckdkonaaDoor.codeTexts
open Go.ChangeShapes Go.WideShapes Go.ChangeAt Go.RowKit
set_option linter.unusedVariables false

set_option maxHeartbeats 4000000 in
theorem walk (A : Option Addr) (n c : Nat) (vs : List (Int × Int)) (s : ByteArray) (op : Int) (w : World) (hn : Hid (vs.length = n)) (hl : n ≤ 9223372036854775807) (hf : Hid (Fit vs)) (hv : VRow w w.heap.size A vs) (hnil : Hid (A = none → c = 0)) (hs : s.size ≤ 9223372036854775807) (hM : MetE w) :
    Calls Tryd.prog 4 #[.slice A n c, .string s, .int .i64 op] w fun e w' => e = .returned (.bool true) ∧ Below w.heap.size w w' := by
  have HM := Lib.hid hM
  clear hM
  obtain ⟨S, hS⟩ : ∃ S, str S = s := ⟨s.data.toList, str_self s⟩
  obtain ⟨k, hk⟩ : ∃ k, s.size = k := ⟨_, rfl⟩
  have HK := Lib.hid (show S.length = k by rw [← hk, ← hS, str_size])
  have hsz : (str S).size = k := by rw [hS]; exact hk
  have HV := Lib.hid hv
  have HF := Lib.hid hf.out.two
  rw [hk] at hs
  subst hS
  obtain ⟨⟨pl, pi, pe⟩, hr⟩ : ∃ r, Cp.parse S = r := ⟨_, rfl⟩
  have HP := fun W h hE => parse_any S W h hE
  have HQ := fun W h => refParse_any S W h
  rw [hr] at HP HQ
  have hpl := Cp.parse_len S
  rw [hr] at hpl
  have HPL := Lib.hid hpl
  clear hr hk hv hpl
  go_enter Tryd.func4, Tryd.ntmps4
  go_wp2_with fail
  refine (shown_any _ HM.out.met).mono ?_
  rintro e w1 ⟨rfl, hb⟩
  have HB1 := Lib.hid hb
  clear hb
  by_cases h100 : 100 < n
  · have g0 : (100 : Int) < (n : Int) := by omega
    go_wp2_with fail
    go_ret
    exact ⟨rfl, HB1.out⟩
  · have g0 : ¬ (100 : Int) < (n : Int) := by omega
    by_cases h2000 : 2000 < k
    · have g1 : (2000 : Int) < (k : Int) := by omega
      go_wp2_with fail
      go_ret
      exact ⟨rfl, HB1.out⟩
    · have g1 : ¬ (2000 : Int) < (k : Int) := by omega
      go_wp2_with fail
      refine (HP _ (by rw [HK.out]; omega) (HM.out.step HB1.out)).mono ?_
      rintro e w2 ⟨A2, m2, c2, rfl, hm2, _, _, _, hv2, hb⟩
      have HB2 := Lib.hid (HB1.out.trans (hb.mono HB1.out.size))
      have HV2 := Lib.hid hv2
      have HM2 := Lib.hid hm2
      clear hb hv2 hm2
      go_wp2_with fail
      refine (HQ _ (by rw [HK.out]; omega)).mono ?_
      rintro e w3 ⟨A3, m3, c3, rfl, hm3, _, _, _, hv3, hb⟩
      have HB3 := Lib.hid (HB2.out.trans (hb.mono HB2.out.size))
      have HV23 := Lib.hid ((HV2.out.below hb).more hb.size)
      have HV3 := Lib.hid hv3
      have HM3 := Lib.hid hm3
      clear hb hv3 hm3
      have hb2 : m2 ≤ 1000000 := by have := HPL.out; rw [HK.out] at this; have := HM2.out; simp only at *; omega
      have hb3 : m3 ≤ 1000000 := by have := HM3.out; have := HM2.out; simp only at *; omega
      go_wp2_with fail
      refine (text_any A n c vs _ hn (by omega) HF ((HV.out.below HB3.out).more HB3.out.size) (HM.out.step HB3.out).met).mono ?_
      rintro e w4 ⟨rfl, hb⟩
      have HB4 := Lib.hid (HB3.out.trans (hb.mono HB3.out.size))
      replace HV23 := Lib.hid ((HV23.out.below hb).more hb.size)
      replace HV3 := Lib.hid ((HV3.out.below hb).more hb.size)
      clear hb
      go_wp2_with fail
      refine (refText_any A n c vs _ hn (by omega) HF ((HV.out.below HB4.out).more HB4.out.size)).mono ?_
      rintro e w5 ⟨rfl, hb⟩
      have HB5 := Lib.hid (HB4.out.trans (hb.mono HB4.out.size))
      replace HV23 := Lib.hid ((HV23.out.below hb).more hb.size)
      replace HV3 := Lib.hid ((HV3.out.below hb).more hb.size)
      clear hb
      go_wp2_with fail
      refine (refSame_any A2 A3 m2 m3 c2 c3 pl pl _ HM2 HM3 hb2 hb3 HV23.out HV3.out).mono ?_
      rintro e w6 ⟨rfl, hb⟩
      rw [decide_eq_true (rfl : pl = pl)]
      have HB6 := Lib.hid (HB5.out.trans (hb.mono HB5.out.size))
      clear hb
      go_wp2_with fail
      refine (name_any op _ (HM.out.step HB6.out).met).mono ?_
      rintro e w7 ⟨rfl, hb⟩
      have HB7 := Lib.hid (HB6.out.trans (hb.mono HB6.out.size))
      clear hb
      go_wp2_with fail
      refine (refName_any op _).mono ?_
      rintro e w8 ⟨rfl, hb⟩
      have HB8 := Lib.hid (HB7.out.trans (hb.mono HB7.out.size))
      clear hb
      go_wp2_with fail
      go_ret
      exact ⟨rfl, HB8.out⟩
set_option maxRecDepth 100000 in
theorem lifted (os : Os) (started : os.Started) (H : Type) (enc : TypeId × Value → H) :
    ReturnsInHanded {} Tryd.checked os 4 .any (fun w args => (Rows.codeTextsSpec.pre enc Tryd.prog Tryd.f4 [] false w args ∧ laidMetH Tryd.prog laid6 w) ∧ sizedMet enc Tryd.prog Tryd.f4 (OpenSpec.ofChange Rows.codeTextsSpec) false w args)
      (Rows.codeTextsSpec.post enc Tryd.prog Tryd.f4 false true false false) := by
  refine returnsInHanded_of_change_and (C := Tryd.checked) (X := fun w _ => laidMetH Tryd.prog laid6 w) (fun _ _ _ hh h => h.of_heap hh) own started (by kernel_rfl) Tryd.func4
    (ChangeSpec.witness_shaped (enc := enc) (C := Tryd.checked) (os := os) (X := fun w _ => laidMetH Tryd.prog laid6 w) false (World.doorLaid Tryd.prog 67 os) #[.slice none 0 0, .string ⟨#[]⟩, .int .i64 0] 8 rfl (World.shaped_of_RefB (by kernel_rfl) (by kernel_rfl)) (by kernel_rfl) (by kernel_rfl) (by kernel_rfl) (door6 os _)) ?_
  intro W base args ds gs before hval0 hW _ _ hL _
  have hval : ∀ (j : Nat) t v, Tryd.f4.params[j]? = some t → args[j]? = some v → Value.okWide Tryd.prog W .any base t v := hval0
  have hW' := hW
  obtain ⟨p, q, hA0, hV, rfl, hfz, hnd⟩ := hW
  have hA : DataW.TrodAll enc Tryd.prog W 0 (fun _ => true) true Tryd.f4.params.toList args.toList ds p := hA0
  rw [Tryd.params4] at hA hval
  obtain ⟨v0, vs0, d0, ds0, p0, q0, hargs, rfl, rfl, h0, r0⟩ := trodAll_cons hA
  obtain ⟨v1, vs1, d1, ds1, p1, q1, rfl, rfl, rfl, h1, r1⟩ := trodAll_cons r0
  obtain ⟨v2, vs2, d2, ds2, p2, q2, rfl, rfl, rfl, h2, r2⟩ := trodAll_cons r1
  obtain ⟨rfl, rfl, rfl⟩ := trodAll_nil r2
  obtain rfl : args = #[v0, v1, v2] := by cases args; simp_all
  obtain ⟨rfl, rfl⟩ := trodVars_none hV
  have k0 := h0
  have lt0 : ∀ x ∈ p0, x.block < W.heap.size := by obtain ⟨m, hm⟩ := k0; exact DataW.trod_lt m _ _ _ hm
  obtain ⟨a0, len0, cap0, rfl⟩ := okWide_slice Tryd.underlying24 (hval 0 24 v0 rfl rfl)
  obtain ⟨hl0, hc0, ha0, z0, hn0, hf0, hr0⟩ : len0 ≤ 9223372036854775807 ∧ (len0 ≤ cap0 ∧ cap0 ≤ 9223372036854775807) ∧ (a0 = none → cap0 = 0) ∧ ∃ vs : List (Int × Int), vs.length = len0 ∧ Fit vs ∧ VRow W W.heap.size a0 vs := by
    obtain ⟨fuel, hf⟩ := h0
    exact open_ins (by simpa [Value.cells] using hf)
  obtain ⟨a1, rfl, rfl, rfl, w1⟩ := Go.ChangeMaps.open_string Tryd.underlying9 (hval 1 9 v1 rfl rfl) h1
  obtain ⟨a2, rfl, rfl, rfl, w2⟩ := open_int Tryd.underlying3 (hval 2 3 v2 rfl rfl) h2
  clear hA0 hval0
  refine (walk a0 len0 cap0 z0 a1 a2 W (Lib.hid hn0) hl0 (Lib.hid hf0) hr0 (Lib.hid ha0) (of_maxLen w1) (met_of_laid6 hL)).mono fun e W' ⟨he, bel⟩ => ?_
  subst he
  exact ⟨_, rfl, _, _, _, [], _, [], hW', trodAll_mk1 (shut_bool Tryd.underlying4 _), (trodAll_cons_mk (Below.trod laidOut (by kernel_rfl) (of_decide_eq_true (by kernel_rfl)) k0 bel lt0) (trodAll_cons_mk (Go.ChangeMaps.shut_string Tryd.underlying9 w1) (trodAll_cons_mk (shut_int Tryd.underlying3 w2) trodAll_mk0))), rfl, bel.frame _, fun h => by cases h⟩
theorem over : Rows.CodeTextsSaid :=
  OpenClaim.holds_of_wide 4 Tryd.f4 rfl rfl rfl rfl rfl rfl rfl ⟨rfl, rfl, rfl, rfl, rfl⟩ rfl rfl rfl rfl rfl (by kernel_rfl) Tryd.func4 (by kernel_rfl)
    (of_decide_eq_true (by kernel_rfl)) (by unfold Func.isWrapper; first | (rw [if_pos (by decide +kernel)]; kernel_rfl) | (rw [if_neg (by decide +kernel)]; exact ⟨rfl, rfl⟩))
    (fun os started H enc _ => lifted os started H enc)
theorem proved : Rows.CodeTextsCardSaid :=
  Claim7.holds_tied_plain_at .later [] [.data, .data, .data, .sentinel, .sentinel, .data] true Rows.codeTextsCard.stood.harness true
    over (fun _ h => by cases h) (by kernel_rfl) (fun _ h => by cases h) codeTexts_row_tie rfl ⟨rfl, rfl⟩ (by kernel_rfl) rfl
    (fun f fn hf hfn => by
      obtain rfl : f = 4 := Option.some.inj ((show Tryd.prog.funcNamed "catafalque/catafalquelaw07.CodeTexts" = some 4 by kernel_rfl).symm.trans hf) |>.symm
      obtain rfl : fn = Tryd.f4 := (Option.some.inj (Tryd.func4.symm.trans hfn)).symm
      exact ⟨by kernel_rfl, fun j t ht => by
        rw [Tryd.params4] at ht
        have hm : t ∈ [24, 9, 3] := by simpa using Array.mem_of_getElem? ht
        have hall : ([24, 9, 3].all fun u => !Tryd.prog.wantsStandIn u) = true := by kernel_rfl
        exact (show Tryd.prog.wantsStandIn t = false by simpa using List.all_eq_true.1 hall t hm)⟩)
    (by kernel_rfl)
end Go.Proofs.YtejhlenckdkonaaDoor.codeTexts

