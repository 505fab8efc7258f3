/- CodeLines: a program's text has a line for each instruction; two programs, one behind the other, have their texts so: the call answers true and changes nothing that was there; for every input. -/
import Derived.Test.YtejhlenckdkonaaDoorCShown
import Derived.Test.YtejhlenckdkonaaDoorCFrame
import Derived.Test.YtejhlenckdkonaaDoorCApp
namespace Go.Proofs.YtejhlenckdkonaaDoor.codeLines
open Go.ChangeShapes Go.WideShapes Go.ChangeAt Go.RowKit
set_option linter.unusedVariables false

set_option maxHeartbeats 4000000 in
theorem walk (A : Option Addr) (n c : Nat) (vs : List (Int × Int)) (B : Option Addr) (m d : Nat) (us : List (Int × Int)) (w : World) (hn : Hid (vs.length = n)) (hl : n ≤ 9223372036854775807) (hf : Hid (Fit vs)) (hv : VRow w w.heap.size A vs) (hnil : Hid (A = none → c = 0))
    (hm : Hid (us.length = m)) (hl2 : m ≤ 9223372036854775807) (hf2 : Hid (Fit us)) (hu : VRow w w.heap.size B us) (hnil2 : Hid (B = none → d = 0)) (hM : Met w) :
    Calls Tryd.prog 8 #[.slice A n c, .slice B m d] w fun e w' => e = .returned (.bool true) ∧ Below w.heap.size w w' := by
  have HV := Lib.hid hv
  have HM := Lib.hid hM
  clear hM
  have HU := Lib.hid hu
  have HF := Lib.hid hf.out.two
  have HG := Lib.hid hf2.out.two
  obtain ⟨S, hS⟩ : ∃ S, Cp.text vs = S := ⟨_, rfl⟩
  have HS := Lib.hid hS
  obtain ⟨k, hk⟩ : ∃ k, (str S).size = k := ⟨_, rfl⟩
  have HK := Lib.hid (show S.length = k by rw [← hk, str_size])
  have HC := Lib.hid (show S.count 10 = n by rw [← hS, Cp.count_text, hn.out])
  clear hv hu hS
  go_enter Tryd.func8, Tryd.ntmps8
  go_wp2_with fail
  refine (shown_any _ HM.out).mono ?_
  rintro e w1 ⟨rfl, hb⟩
  have HB1 := Lib.hid hb
  clear hb
  by_cases h100 : 100 < n
  · have g0 : (100 : Int) < (n : Int) := by omega
    go_wp2_with fail
    go_ret
    exact ⟨rfl, HB1.out⟩
  · have g0 : ¬ (100 : Int) < (n : Int) := by omega
    by_cases h2 : 100 < m
    · have g1 : (100 : Int) < (m : Int) := by omega
      go_wp2_with fail
      go_ret
      exact ⟨rfl, HB1.out⟩
    · have g1 : ¬ (100 : Int) < (m : Int) := by omega
      go_wp2_with fail
      refine (text_any A n c vs _ hn (by omega) HF ((HV.out.below HB1.out).more HB1.out.size) (HM.out.step HB1.out)).mono ?_
      rintro e w2 ⟨rfl, hb⟩
      rw [HS.out]
      have HB2 := Lib.hid (HB1.out.trans (hb.mono HB1.out.size))
      clear hb
      have hkb : k ≤ 2900 := by
        have h1 := Cp.text_len vs HF.out
        have h2 := hn.out
        have h3 := HK.out
        rw [← HS.out] at h3; omega
      go_wp2_with fail
      go_loopw [7, 8] (fun v i wr => ∃ (j y : Nat), j ≤ k ∧ y ≤ j ∧ i = .int .i64 j ∧ v = .int .i64 y ∧ Hid ((S.take j).count 10 = y) ∧ Hid (Below w.heap.size w wr)) (fun _ i _ => k - (intOf i).toNat)
      case atStart => exact ⟨0, 0, Nat.zero_le _, Nat.le_refl _, rfl, rfl, Lib.hid rfl, HB2⟩
      case round =>
        obtain ⟨j, y, hj, hy, rfl, rfl, HY, HB⟩ := hrel
        by_cases hlt : j < k
        · obtain ⟨ch, hc⟩ : ∃ ch, S[j]? = some ch := ⟨_, List.getElem?_eq_getElem (by rw [HK.out]; exact hlt)⟩
          have hidx := fun W => idx_str S j ch hc W
          have hst : S.take (j + 1) = S.take j ++ [ch] := by rw [List.take_add_one, hc]; rfl
          by_cases h10 : ch = 10
          · subst h10
            have HY2 := Lib.hid (show (S.take (j + 1)).count 10 = y + 1 by rw [hst, List.count_append, HY.out]; rfl)
            clear hc hst
            go_wp2_with fail
            go_roundw
            case rel => exact ⟨j + 1, y + 1, by omega, by omega, by go_num, by go_num, HY2, HB⟩
            case measure => simp [intOf]; omega
          · have HY2 := Lib.hid (show (S.take (j + 1)).count 10 = y by rw [hst, List.count_append, HY.out, List.count_singleton]; simp [h10])
            have q1 : ((ch.toNat : Int) == 10) = false := by
              rw [beq_eq_false_iff_ne]; intro e; apply h10
              apply UInt8.toNat_inj.1
              have : ch.toNat = 10 := by omega
              rw [this]; rfl
            clear hc hst h10
            go_wp2_with fail
            go_roundw
            case rel => exact ⟨j + 1, y, by omega, by omega, by go_num, rfl, HY2, HB⟩
            case measure => simp [intOf]; omega
        · obtain rfl : j = k := by omega
          have hyn : y = n := by rw [← HY.out, List.take_of_length_le (by rw [HK.out]; exact Nat.le_refl _)]; exact HC.out
          subst hyn
          have hbn := Lib.hid (below_new wr (.cells #[] 42))
          have hown := Lib.hid (own_empty wr wr.heap.size 42 (Nat.le_refl _))
          go_wp2_with (at_builtin; refine wpList_append_ins_g (.tmp 41) (.tmp 42) rfl (by simp [Region.wanted, yielded]) wr.heap.size (.slice (some ⟨wr.heap.size, 0, none⟩) 0 0) 0 [] rfl hown.out A y c vs rfl (((HV.out.below HB.out).more HB.out.size |>.below hbn.out).more hbn.out.size) hn.out hnil.out (by omega) (by simp) ?_)
          intro va w5 hoa hga
          have OA := Lib.hid (show w5.ownsRow wr.heap.size 42 2 va y (vcells vs) from by simpa using hoa)
          have HB5 := Lib.hid (hbn.out.grown hga (by simp) (fun q e => by simp [Value.ownBlock] at e; omega))
          have hs5 := HB5.out.size
          have HBw5 := Lib.hid (HB.out.trans (HB5.out.mono HB.out.size))
          clear hoa hga
          go_wp2_with (at_builtin; refine wpList_append_ins_g (.tmp 43) (.tmp 44) rfl (by simp [Region.wanted, yielded]) wr.heap.size va y vs rfl OA.out B m d us rfl ((HU.out.below HBw5.out).more HBw5.out.size) hm.out hnil2.out (by omega) hs5 ?_)
          intro vb w6 hob hgb
          have HB6 := Lib.hid (HB5.out.grown hgb hs5 (fun q e => (OA.out.lt q e).1))
          have HBw6 := Lib.hid (HB.out.trans (HB6.out.mono HB.out.size))
          obtain ⟨Av, cv, rfl, _, _, _, hrv⟩ := own_vform hob
          have RV := Lib.hid hrv
          have RL := Lib.hid (show (vs ++ us).length = y + m by rw [List.length_append, hn.out, hm.out])
          have RF := Lib.hid (show Fit2 (vs ++ us) from fun x hx => by rcases List.mem_append.1 hx with h | h; exact HF.out x h; exact HG.out x h)
          clear hob hgb hrv
          go_wp2_with fail
          refine (text_any Av (y + m) cv (vs ++ us) _ RL (by omega) RF RV.out (HM.out.step HBw6.out)).mono ?_
          rintro e w7 ⟨rfl, hb⟩
          have HB7 := Lib.hid (HBw6.out.trans (hb.mono HBw6.out.size))
          clear hb
          go_wp2_with fail
          refine (text_any B m d us _ hm (by omega) HG ((HU.out.below HB7.out).more HB7.out.size) (HM.out.step HB7.out)).mono ?_
          rintro e w8 ⟨rfl, hb⟩
          have HB8 := Lib.hid (HB7.out.trans (hb.mono HB7.out.size))
          clear hb
          have hul : (Cp.text us).length ≤ 2900 := by have h1 := Cp.text_len us HG.out; have h2 := hm.out; omega
          have hadd : ∀ W, (Op.stringOp .add (str S) (str (Cp.text us))).run Tryd.prog W = .ok (.string (str (S ++ Cp.text us))) W := fun W => str_add W _ _ (by rw [HK.out]; omega)
          have q2 : ((str (Cp.text (vs ++ us))).toList == (str (S ++ Cp.text us)).toList) = true := by rw [str_cmp, Cp.text_app, HS.out]; simp
          go_wp2_with fail
          go_ret
          exact ⟨rfl, HB8.out⟩
set_option maxRecDepth 100000 in
theorem lifted (os : Os) (started : os.Started) (H : Type) (enc : TypeId × Value → H) :
    ReturnsInHanded {} Tryd.checked os 8 .any (fun w args => (Rows.codeLinesSpec.pre enc Tryd.prog Tryd.f8 [] false w args ∧ laidMetH Tryd.prog laid4 w) ∧ sizedMet enc Tryd.prog Tryd.f8 (OpenSpec.ofChange Rows.codeLinesSpec) false w args)
      (Rows.codeLinesSpec.post enc Tryd.prog Tryd.f8 false true false false) := by
  refine returnsInHanded_of_change_and (C := Tryd.checked) (X := fun w _ => laidMetH Tryd.prog laid4 w) (fun _ _ _ hh h => h.of_heap hh) own started (by kernel_rfl) Tryd.func8
    (ChangeSpec.witness_shaped (enc := enc) (C := Tryd.checked) (os := os) (X := fun w _ => laidMetH Tryd.prog laid4 w) false (World.doorLaid Tryd.prog 67 os) #[.slice none 0 0, .slice none 0 0] 8 rfl (World.shaped_of_RefB (by kernel_rfl) (by kernel_rfl)) (by kernel_rfl) (by kernel_rfl) (by kernel_rfl) (door4 os _)) ?_
  intro W base args ds gs before hval0 hW _ _ hL _
  have hval : ∀ (j : Nat) t v, Tryd.f8.params[j]? = some t → args[j]? = some v → Value.okWide Tryd.prog W .any base t v := hval0
  have hW' := hW
  obtain ⟨p, q, hA0, hV, rfl, hfz, hnd⟩ := hW
  have hA : DataW.TrodAll enc Tryd.prog W 0 (fun _ => true) true Tryd.f8.params.toList args.toList ds p := hA0
  rw [Tryd.params8] at hA hval
  obtain ⟨v0, vs0, d0, ds0, p0, q0, hargs, rfl, rfl, h0, r0⟩ := trodAll_cons hA
  obtain ⟨v1, vs1, d1, ds1, p1, q1, rfl, rfl, rfl, h1, r1⟩ := trodAll_cons r0
  obtain ⟨rfl, rfl, rfl⟩ := trodAll_nil r1
  obtain rfl : args = #[v0, v1] := by cases args; simp_all
  obtain ⟨rfl, rfl⟩ := trodVars_none hV
  have k0 := h0
  have lt0 : ∀ x ∈ p0, x.block < W.heap.size := by obtain ⟨m, hm⟩ := k0; exact DataW.trod_lt m _ _ _ hm
  obtain ⟨a0, len0, cap0, rfl⟩ := okWide_slice Tryd.underlying24 (hval 0 24 v0 rfl rfl)
  obtain ⟨hl0, hc0, ha0, z0, hn0, hf0, hr0⟩ : len0 ≤ 9223372036854775807 ∧ (len0 ≤ cap0 ∧ cap0 ≤ 9223372036854775807) ∧ (a0 = none → cap0 = 0) ∧ ∃ vs : List (Int × Int), vs.length = len0 ∧ Fit vs ∧ VRow W W.heap.size a0 vs := by
    obtain ⟨fuel, hf⟩ := h0
    exact open_ins (by simpa [Value.cells] using hf)
  have k1 := h1
  have lt1 : ∀ x ∈ p1, x.block < W.heap.size := by obtain ⟨m, hm⟩ := k1; exact DataW.trod_lt m _ _ _ hm
  obtain ⟨a1, len1, cap1, rfl⟩ := okWide_slice Tryd.underlying24 (hval 1 24 v1 rfl rfl)
  obtain ⟨hl1, hc1, ha1, z1, hn1, hf1, hr1⟩ : len1 ≤ 9223372036854775807 ∧ (len1 ≤ cap1 ∧ cap1 ≤ 9223372036854775807) ∧ (a1 = none → cap1 = 0) ∧ ∃ vs : List (Int × Int), vs.length = len1 ∧ Fit vs ∧ VRow W W.heap.size a1 vs := by
    obtain ⟨fuel, hf⟩ := h1
    exact open_ins (by simpa [Value.cells] using hf)
  clear hA0 hval0
  refine (walk a0 len0 cap0 z0 a1 len1 cap1 z1 W (Lib.hid hn0) hl0 (Lib.hid hf0) hr0 (Lib.hid ha0) (Lib.hid hn1) hl1 (Lib.hid hf1) hr1 (Lib.hid ha1) (met_of_laid4 hL)).mono fun e W' ⟨he, bel⟩ => ?_
  subst he
  exact ⟨_, rfl, _, _, _, [], _, [], hW', trodAll_mk1 (shut_bool Tryd.underlying4 _), (trodAll_cons_mk (Below.trod laidOut (by kernel_rfl) (of_decide_eq_true (by kernel_rfl)) k0 bel lt0) (trodAll_cons_mk (Below.trod laidOut (by kernel_rfl) (of_decide_eq_true (by kernel_rfl)) k1 bel lt1) trodAll_mk0)), rfl, bel.frame _, fun h => by cases h⟩
theorem over : Rows.CodeLinesSaid :=
  OpenClaim.holds_of_wide 8 Tryd.f8 rfl rfl rfl rfl rfl rfl rfl ⟨rfl, rfl, rfl, rfl, rfl⟩ rfl rfl rfl rfl rfl (by kernel_rfl) Tryd.func8 (by kernel_rfl)
    (of_decide_eq_true (by kernel_rfl)) (by unfold Func.isWrapper; first | (rw [if_pos (by decide +kernel)]; kernel_rfl) | (rw [if_neg (by decide +kernel)]; exact ⟨rfl, rfl⟩))
    (fun os started H enc _ => lifted os started H enc)
theorem proved : Rows.CodeLinesCardSaid :=
  Claim7.holds_tied_plain_at .later [] [.data, .data, .data, .data] true Rows.codeLinesCard.stood.harness true
    over (fun _ h => by cases h) (by kernel_rfl) (fun _ h => by cases h) codeLines_row_tie rfl ⟨rfl, rfl⟩ (by kernel_rfl) rfl
    (fun f fn hf hfn => by
      obtain rfl : f = 8 := Option.some.inj ((show Tryd.prog.funcNamed "catafalque/catafalquelaw07.CodeLines" = some 8 by kernel_rfl).symm.trans hf) |>.symm
      obtain rfl : fn = Tryd.f8 := (Option.some.inj (Tryd.func8.symm.trans hfn)).symm
      exact ⟨by kernel_rfl, fun j t ht => by
        rw [Tryd.params8] at ht
        have hm : t ∈ [24, 24] := by simpa using Array.mem_of_getElem? ht
        have hall : ([24, 24].all fun u => !Tryd.prog.wantsStandIn u) = true := by kernel_rfl
        exact (show Tryd.prog.wantsStandIn t = false by simpa using List.all_eq_true.1 hall t hm)⟩)
    (by kernel_rfl)
end Go.Proofs.YtejhlenckdkonaaDoor.codeLines

