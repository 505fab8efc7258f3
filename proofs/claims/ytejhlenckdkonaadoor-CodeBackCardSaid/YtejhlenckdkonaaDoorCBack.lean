/- CodeBack: what is printed is parsed as it was, if all instructions have names; what is parsed has the very text: the call answers true and changes nothing that was there; for every input. -/
import Derived.Test.YtejhlenckdkonaaDoorCShown
import Derived.Test.YtejhlenckdkonaaDoorCFrame
namespace Go.Proofs.YtejhlenckdkonaaDoor.codeBack
open Go.ChangeShapes Go.WideShapes Go.ChangeAt Go.RowKit
set_option linter.unusedVariables false

theorem name_empty (op : Int) : (str (Cp.nm op)).toList.isEmpty = !(decide (1 ≤ op) && decide (op ≤ 10)) := by
  by_cases h : 1 ≤ op ∧ op ≤ 10
  · rw [str_some (Cp.nm_ne h.1 h.2), decide_eq_true h.1, decide_eq_true h.2]; rfl
  · rw [Cp.nm_out h, str_none, ← Bool.decide_and, decide_eq_false h]; rfl
set_option maxHeartbeats 8000000 in
set_option maxRecDepth 100000 in
theorem walk (A : Option Addr) (n c : Nat) (vs : List (Int × Int)) (s : ByteArray) (w : World) (hn : Hid (vs.length = n)) (hl : n ≤ 9223372036854775807) (hf : Hid (Fit vs)) (hv : VRow w w.heap.size A vs) (hnil : Hid (A = none → c = 0)) (hs : s.size ≤ 9223372036854775807) (hM : MetE w) :
    Calls Tryd.prog 5 #[.slice A n c, .string s] w fun e w' => e = .returned (.bool true) ∧ Below w.heap.size w w' := by
  have HM := Lib.hid hM
  clear hM
  obtain ⟨S, hS⟩ : ∃ S, str S = s := ⟨s.data.toList, str_self s⟩
  obtain ⟨k, hk⟩ : ∃ k, s.size = k := ⟨_, rfl⟩
  have HK := Lib.hid (show S.length = k by rw [← hk, ← hS, str_size])
  have hsz : (str S).size = k := by rw [hS]; exact hk
  have HV := Lib.hid hv
  have HF := Lib.hid hf.out.two
  rw [hk] at hs
  subst hS
  obtain ⟨⟨pl, pi, pe⟩, hr⟩ : ∃ r, Cp.parse S = r := ⟨_, rfl⟩
  have HQ := fun W h hE => parse_any S W h hE
  rw [hr] at HQ
  have hpl := Cp.parse_len S
  rw [hr] at hpl
  have HPL := Lib.hid hpl
  have HE := Lib.hid (Cp.parse_err hr)
  have HT := Lib.hid (show pe = 0 → Cp.text pl = S ∧ ∀ x ∈ pl, Cp.named x = true ∧ Cp.In64 x.2 from fun e => by
    subst e
    have := Cp.parse_back hr
    exact ⟨this.1, this.2.2⟩)
  clear hr hk hv hpl
  go_enter Tryd.func5, Tryd.ntmps5
  go_wp2_with fail
  refine (shown_any _ HM.out.met).mono ?_
  rintro e w1 ⟨rfl, hb⟩
  have HB1 := Lib.hid hb
  clear hb
  by_cases h100 : 100 < n
  · have g0 : (100 : Int) < (n : Int) := by omega
    go_wp2_with fail
    go_ret
    exact ⟨rfl, HB1.out⟩
  · have g0 : ¬ (100 : Int) < (n : Int) := by omega
    by_cases h2000 : 2000 < k
    · have g1 : (2000 : Int) < (k : Int) := by omega
      go_wp2_with fail
      go_ret
      exact ⟨rfl, HB1.out⟩
    · have g1 : ¬ (2000 : Int) < (k : Int) := by omega
      go_wp2_with fail
      go_loopw [6, 7] (fun v i wr => ∃ (q : Nat) (z : Int), q ≤ n ∧ i = .int .i64 q ∧ v = .int .i64 z ∧ Hid ((z = -1 ∧ ∀ y ∈ vs.take q, Cp.named y = true) ∨ ∃ (j : Nat) (x : Int × Int), z = (j : Int) ∧ vs[j]? = some x ∧ Cp.named x = false ∧ ∀ y ∈ vs.take j, Cp.named y = true) ∧ Hid (Below w.heap.size w wr)) (fun _ i _ => n - (intOf i).toNat)
      case atStart => exact ⟨0, -1, Nat.zero_le _, rfl, rfl, Lib.hid (.inl ⟨rfl, fun y hy => by simp at hy⟩), HB1⟩
      case round =>
        obtain ⟨q, z, hq, rfl, rfl, HD, HB⟩ := hrel
        rcases HD.out with ⟨rfl, hall⟩ | ⟨j, x, rfl, hx, hnx, hall⟩
        · have HA := Lib.hid hall
          clear hall HD
          by_cases hlt : q < n
          · obtain ⟨x, hx⟩ : ∃ x, vs[q]? = some x := ⟨_, List.getElem?_eq_getElem (by rw [hn.out]; exact hlt)⟩
            obtain ⟨b, off, rfl, hb, hc0, _⟩ := (HV.out.below HB.out) q x hx
            obtain ⟨op, a⟩ := x
            have HX := Lib.hid hx
            have HNE := Lib.hid (name_empty op)
            clear hx
            go_wp2_with fail
            refine (name_any op _ (HM.out.step HB.out).met).mono ?_
            rintro e w2 ⟨rfl, hb2⟩
            have HB2 := Lib.hid (HB.out.trans (hb2.mono HB.out.size))
            clear hb2
            cases hnm : (decide (1 ≤ op) && decide (op ≤ 10))
            · have q5 : (str (Cp.nm op)).toList.isEmpty = true := by rw [HNE.out, hnm]; rfl
              have HD2 := Lib.hid (show ((q : Int) = -1 ∧ ∀ y ∈ vs.take (q + 1), Cp.named y = true) ∨ ∃ (j : Nat) (x : Int × Int), (q : Int) = (j : Int) ∧ vs[j]? = some x ∧ Cp.named x = false ∧ ∀ y ∈ vs.take j, Cp.named y = true from .inr ⟨q, (op, a), rfl, HX.out, hnm, HA.out⟩)
              clear hnm
              go_wp2_with fail
              go_roundw
              case rel => exact ⟨q + 1, q, by omega, by go_num, rfl, HD2, HB2⟩
              case measure => simp [intOf]; omega
            · have q5 : (str (Cp.nm op)).toList.isEmpty = false := by rw [HNE.out, hnm]; rfl
              have HD2 := Lib.hid (show ((-1 : Int) = -1 ∧ ∀ y ∈ vs.take (q + 1), Cp.named y = true) ∨ ∃ (j : Nat) (x : Int × Int), (-1 : Int) = (j : Int) ∧ vs[j]? = some x ∧ Cp.named x = false ∧ ∀ y ∈ vs.take j, Cp.named y = true from .inl ⟨rfl, fun y hy => by
                rw [List.take_add_one, HX.out] at hy
                rcases List.mem_append.1 hy with hy | hy
                · exact HA.out y hy
                · simp at hy; subst hy; exact hnm⟩)
              clear hnm
              go_wp2_with fail
              go_roundw
              case rel => exact ⟨q + 1, -1, by omega, by go_num, rfl, Lib.hid (HD2.out.imp (fun h => ⟨rfl, h.2⟩) id), HB2⟩
              case measure => simp [intOf]; omega
          · obtain rfl : q = n := by omega
            have HRES := Lib.hid (show Cp.parse (Cp.text vs) = (vs, 0, 0) from Cp.parse_text fun x hx => ⟨HA.out x (by rw [List.take_of_length_le (by rw [hn.out]; exact Nat.le_refl _)]; exact hx), HF.out x hx⟩)
            go_wp2_with fail
            refine (text_any A q c vs _ hn (by omega) HF ((HV.out.below HB.out).more HB.out.size) (HM.out.step HB.out).met).mono ?_
            rintro e w3 ⟨rfl, hb⟩
            have HB3 := Lib.hid (HB.out.trans (hb.mono HB.out.size))
            clear hb
            have HTL := Lib.hid (show (Cp.text vs).length ≤ 100000 by have h1 := Cp.text_len vs HF.out; have h2 := hn.out; omega)
            have HPP := fun W hE => parse_any (Cp.text vs) W HTL.out hE
            rw [HRES.out] at HPP
            go_wp2_with fail
            refine (HPP _ (HM.out.step HB3.out)).mono ?_
            rintro e w4 ⟨A4, m4, c4, rfl, hm4, _, _, _, hv4, hb⟩
            have HB4 := Lib.hid (HB3.out.trans (hb.mono HB3.out.size))
            have HV4 := Lib.hid hv4
            have HM4 := Lib.hid hm4
            clear hb hv4 hm4 HPP
            go_wp2_with fail
            refine (HQ _ (by rw [HK.out]; omega) (HM.out.step HB4.out)).mono ?_
            rintro e w5 ⟨A5, m5, c5, rfl, hm5, _, _, _, hv5, hb⟩
            have HB5 := Lib.hid (HB4.out.trans (hb.mono HB4.out.size))
            have HV5 := Lib.hid hv5
            have HM5 := Lib.hid hm5
            have HV45 := Lib.hid ((HV4.out.below hb).more hb.size)
            have hb5 : m5 ≤ 2000 := by have := HPL.out; rw [HK.out] at this; have := HM5.out; simp only at *; omega
            clear hb hv5 hm5
            rcases HE.out with rfl | ⟨rfl, rfl⟩
            · have q7 := HT.out rfl
              have HT7 := Lib.hid q7.1
              have HF7 := Lib.hid (show Fit2 pl from fun x hx => (q7.2 x hx).2)
              clear q7
              go_wp2_with fail
              refine (text_any A5 m5 c5 pl _ HM5 hb5 HF7 HV5.out (HM.out.step HB5.out).met).mono ?_
              rintro e w6 ⟨rfl, hb⟩
              rw [HT7.out]
              have HB6 := Lib.hid (HB5.out.trans (hb.mono HB5.out.size))
              have HV6 := Lib.hid ((HV45.out.below hb).more hb.size)
              clear hb
              go_wp2_with fail
              refine (refSame_any A4 A m4 q c4 c vs vs _ HM4 hn (by have h1 : vs.length = m4 := HM4.out; have h2 := hn.out; omega) (by omega) HV6.out ((HV.out.below HB6.out).more HB6.out.size)).mono ?_
              rintro e w7 ⟨rfl, hb⟩
              rw [decide_eq_true (rfl : vs = vs)]
              have HB7 := Lib.hid (HB6.out.trans (hb.mono HB6.out.size))
              clear hb
              go_wp2_with fail
              go_ret
              exact ⟨rfl, HB7.out⟩
            · have HB6 := HB5
              have HV6 := HV45
              go_wp2_with fail
              refine (refSame_any A4 A m4 q c4 c vs vs _ HM4 hn (by have h1 : vs.length = m4 := HM4.out; have h2 := hn.out; omega) (by omega) HV6.out ((HV.out.below HB6.out).more HB6.out.size)).mono ?_
              rintro e w7 ⟨rfl, hb⟩
              rw [decide_eq_true (rfl : vs = vs)]
              have HB7 := Lib.hid (HB6.out.trans (hb.mono HB6.out.size))
              clear hb
              go_wp2_with fail
              go_ret
              exact ⟨rfl, HB7.out⟩
        · have HRES := Lib.hid (show Cp.parse (Cp.text vs) = ([], j, 2) from Cp.parse_bad hx hnx fun y hy => ⟨hall y hy, HF.out y (List.mem_of_mem_take hy)⟩)
          have hj0 : ¬ (j : Int) < 0 := by omega
          clear hx hnx hall HD
          by_cases hlt : q < n
          · skip
            go_wp2_with fail
            refine (text_any A n c vs _ hn (by omega) HF ((HV.out.below HB.out).more HB.out.size) (HM.out.step HB.out).met).mono ?_
            rintro e w3 ⟨rfl, hb⟩
            have HB3 := Lib.hid (HB.out.trans (hb.mono HB.out.size))
            clear hb
            have HTL := Lib.hid (show (Cp.text vs).length ≤ 100000 by have h1 := Cp.text_len vs HF.out; have h2 := hn.out; omega)
            have HPP := fun W hE => parse_any (Cp.text vs) W HTL.out hE
            rw [HRES.out] at HPP
            go_wp2_with fail
            refine (HPP _ (HM.out.step HB3.out)).mono ?_
            rintro e w4 ⟨A4, m4, c4, rfl, hm4, _, _, _, hv4, hb⟩
            have HB4 := Lib.hid (HB3.out.trans (hb.mono HB3.out.size))
            have HV4 := Lib.hid hv4
            have HM4 := Lib.hid hm4
            clear hb hv4 hm4 HPP
            go_wp2_with fail
            refine (HQ _ (by rw [HK.out]; omega) (HM.out.step HB4.out)).mono ?_
            rintro e w5 ⟨A5, m5, c5, rfl, hm5, _, _, _, hv5, hb⟩
            have HB5 := Lib.hid (HB4.out.trans (hb.mono HB4.out.size))
            have HV5 := Lib.hid hv5
            have HM5 := Lib.hid hm5
            have HV45 := Lib.hid ((HV4.out.below hb).more hb.size)
            have hb5 : m5 ≤ 2000 := by have := HPL.out; rw [HK.out] at this; have := HM5.out; simp only at *; omega
            clear hb hv5 hm5
            rcases HE.out with rfl | ⟨rfl, rfl⟩
            · have q7 := HT.out rfl
              have HT7 := Lib.hid q7.1
              have HF7 := Lib.hid (show Fit2 pl from fun x hx => (q7.2 x hx).2)
              clear q7
              go_wp2_with fail
              refine (text_any A5 m5 c5 pl _ HM5 hb5 HF7 HV5.out (HM.out.step HB5.out).met).mono ?_
              rintro e w6 ⟨rfl, hb⟩
              rw [HT7.out]
              have HB6 := Lib.hid (HB5.out.trans (hb.mono HB5.out.size))
              have HV6 := Lib.hid ((HV45.out.below hb).more hb.size)
              clear hb
              go_wp2_with fail
              go_ret
              exact ⟨ret_bool (by rw [beq_iff_eq]; have := HM4.out; simp only [List.length_nil] at this; omega), HB6.out⟩
            · have HB6 := HB5
              have HV6 := HV45
              go_wp2_with fail
              go_ret
              exact ⟨ret_bool (by rw [beq_iff_eq]; have := HM4.out; simp only [List.length_nil] at this; omega), HB6.out⟩
          · obtain rfl : q = n := by omega
            go_wp2_with fail
            refine (text_any A q c vs _ hn (by omega) HF ((HV.out.below HB.out).more HB.out.size) (HM.out.step HB.out).met).mono ?_
            rintro e w3 ⟨rfl, hb⟩
            have HB3 := Lib.hid (HB.out.trans (hb.mono HB.out.size))
            clear hb
            have HTL := Lib.hid (show (Cp.text vs).length ≤ 100000 by have h1 := Cp.text_len vs HF.out; have h2 := hn.out; omega)
            have HPP := fun W hE => parse_any (Cp.text vs) W HTL.out hE
            rw [HRES.out] at HPP
            go_wp2_with fail
            refine (HPP _ (HM.out.step HB3.out)).mono ?_
            rintro e w4 ⟨A4, m4, c4, rfl, hm4, _, _, _, hv4, hb⟩
            have HB4 := Lib.hid (HB3.out.trans (hb.mono HB3.out.size))
            have HV4 := Lib.hid hv4
            have HM4 := Lib.hid hm4
            clear hb hv4 hm4 HPP
            go_wp2_with fail
            refine (HQ _ (by rw [HK.out]; omega) (HM.out.step HB4.out)).mono ?_
            rintro e w5 ⟨A5, m5, c5, rfl, hm5, _, _, _, hv5, hb⟩
            have HB5 := Lib.hid (HB4.out.trans (hb.mono HB4.out.size))
            have HV5 := Lib.hid hv5
            have HM5 := Lib.hid hm5
            have HV45 := Lib.hid ((HV4.out.below hb).more hb.size)
            have hb5 : m5 ≤ 2000 := by have := HPL.out; rw [HK.out] at this; have := HM5.out; simp only at *; omega
            clear hb hv5 hm5
            rcases HE.out with rfl | ⟨rfl, rfl⟩
            · have q7 := HT.out rfl
              have HT7 := Lib.hid q7.1
              have HF7 := Lib.hid (show Fit2 pl from fun x hx => (q7.2 x hx).2)
              clear q7
              go_wp2_with fail
              refine (text_any A5 m5 c5 pl _ HM5 hb5 HF7 HV5.out (HM.out.step HB5.out).met).mono ?_
              rintro e w6 ⟨rfl, hb⟩
              rw [HT7.out]
              have HB6 := Lib.hid (HB5.out.trans (hb.mono HB5.out.size))
              have HV6 := Lib.hid ((HV45.out.below hb).more hb.size)
              clear hb
              go_wp2_with fail
              go_ret
              exact ⟨ret_bool (by rw [beq_iff_eq]; have := HM4.out; simp only [List.length_nil] at this; omega), HB6.out⟩
            · have HB6 := HB5
              have HV6 := HV45
              go_wp2_with fail
              go_ret
              exact ⟨ret_bool (by rw [beq_iff_eq]; have := HM4.out; simp only [List.length_nil] at this; omega), HB6.out⟩
set_option maxRecDepth 100000 in
theorem lifted (os : Os) (started : os.Started) (H : Type) (enc : TypeId × Value → H) :
    ReturnsInHanded {} Tryd.checked os 5 .any (fun w args => (Rows.codeBackSpec.pre enc Tryd.prog Tryd.f5 [] false w args ∧ laidMetH Tryd.prog laid6 w) ∧ sizedMet enc Tryd.prog Tryd.f5 (OpenSpec.ofChange Rows.codeBackSpec) false w args)
      (Rows.codeBackSpec.post enc Tryd.prog Tryd.f5 false true false false) := by
  refine returnsInHanded_of_change_and (C := Tryd.checked) (X := fun w _ => laidMetH Tryd.prog laid6 w) (fun _ _ _ hh h => h.of_heap hh) own started (by kernel_rfl) Tryd.func5
    (ChangeSpec.witness_shaped (enc := enc) (C := Tryd.checked) (os := os) (X := fun w _ => laidMetH Tryd.prog laid6 w) false (World.doorLaid Tryd.prog 67 os) #[.slice none 0 0, .string ⟨#[]⟩] 8 rfl (World.shaped_of_RefB (by kernel_rfl) (by kernel_rfl)) (by kernel_rfl) (by kernel_rfl) (by kernel_rfl) (door6 os _)) ?_
  intro W base args ds gs before hval0 hW _ _ hL _
  have hval : ∀ (j : Nat) t v, Tryd.f5.params[j]? = some t → args[j]? = some v → Value.okWide Tryd.prog W .any base t v := hval0
  have hW' := hW
  obtain ⟨p, q, hA0, hV, rfl, hfz, hnd⟩ := hW
  have hA : DataW.TrodAll enc Tryd.prog W 0 (fun _ => true) true Tryd.f5.params.toList args.toList ds p := hA0
  rw [Tryd.params5] at hA hval
  obtain ⟨v0, vs0, d0, ds0, p0, q0, hargs, rfl, rfl, h0, r0⟩ := trodAll_cons hA
  obtain ⟨v1, vs1, d1, ds1, p1, q1, rfl, rfl, rfl, h1, r1⟩ := trodAll_cons r0
  obtain ⟨rfl, rfl, rfl⟩ := trodAll_nil r1
  obtain rfl : args = #[v0, v1] := by cases args; simp_all
  obtain ⟨rfl, rfl⟩ := trodVars_none hV
  have k0 := h0
  have lt0 : ∀ x ∈ p0, x.block < W.heap.size := by obtain ⟨m, hm⟩ := k0; exact DataW.trod_lt m _ _ _ hm
  obtain ⟨a0, len0, cap0, rfl⟩ := okWide_slice Tryd.underlying24 (hval 0 24 v0 rfl rfl)
  obtain ⟨hl0, hc0, ha0, z0, hn0, hf0, hr0⟩ : len0 ≤ 9223372036854775807 ∧ (len0 ≤ cap0 ∧ cap0 ≤ 9223372036854775807) ∧ (a0 = none → cap0 = 0) ∧ ∃ vs : List (Int × Int), vs.length = len0 ∧ Fit vs ∧ VRow W W.heap.size a0 vs := by
    obtain ⟨fuel, hf⟩ := h0
    exact open_ins (by simpa [Value.cells] using hf)
  obtain ⟨a1, rfl, rfl, rfl, w1⟩ := Go.ChangeMaps.open_string Tryd.underlying9 (hval 1 9 v1 rfl rfl) h1
  clear hA0 hval0
  refine (walk a0 len0 cap0 z0 a1 W (Lib.hid hn0) hl0 (Lib.hid hf0) hr0 (Lib.hid ha0) (of_maxLen w1) (met_of_laid6 hL)).mono fun e W' ⟨he, bel⟩ => ?_
  subst he
  exact ⟨_, rfl, _, _, _, [], _, [], hW', trodAll_mk1 (shut_bool Tryd.underlying4 _), (trodAll_cons_mk (Below.trod laidOut (by kernel_rfl) (of_decide_eq_true (by kernel_rfl)) k0 bel lt0) (trodAll_cons_mk (Go.ChangeMaps.shut_string Tryd.underlying9 w1) trodAll_mk0)), rfl, bel.frame _, fun h => by cases h⟩
theorem over : Rows.CodeBackSaid :=
  OpenClaim.holds_of_wide 5 Tryd.f5 rfl rfl rfl rfl rfl rfl rfl ⟨rfl, rfl, rfl, rfl, rfl⟩ rfl rfl rfl rfl rfl (by kernel_rfl) Tryd.func5 (by kernel_rfl)
    (of_decide_eq_true (by kernel_rfl)) (by unfold Func.isWrapper; first | (rw [if_pos (by decide +kernel)]; kernel_rfl) | (rw [if_neg (by decide +kernel)]; exact ⟨rfl, rfl⟩))
    (fun os started H enc _ => lifted os started H enc)
theorem proved : Rows.CodeBackCardSaid :=
  Claim7.holds_tied_plain_at .later [] [.data, .data, .data, .sentinel, .sentinel, .data] true Rows.codeBackCard.stood.harness true
    over (fun _ h => by cases h) (by kernel_rfl) (fun _ h => by cases h) codeBack_row_tie rfl ⟨rfl, rfl⟩ (by kernel_rfl) rfl
    (fun f fn hf hfn => by
      obtain rfl : f = 5 := Option.some.inj ((show Tryd.prog.funcNamed "catafalque/catafalquelaw07.CodeBack" = some 5 by kernel_rfl).symm.trans hf) |>.symm
      obtain rfl : fn = Tryd.f5 := (Option.some.inj (Tryd.func5.symm.trans hfn)).symm
      exact ⟨by kernel_rfl, fun j t ht => by
        rw [Tryd.params5] at ht
        have hm : t ∈ [24, 9] := by simpa using Array.mem_of_getElem? ht
        have hall : ([24, 9].all fun u => !Tryd.prog.wantsStandIn u) = true := by kernel_rfl
        exact (show Tryd.prog.wantsStandIn t = false by simpa using List.all_eq_true.1 hall t hm)⟩)
    (by kernel_rfl)
end Go.Proofs.YtejhlenckdkonaaDoor.codeBack

