/- RunsWhere: one stands somewhere just if it is among all; nowhere in two places, if the Runs may be: the call answers true and changes nothing that was there; for every input. -/
import Derived.Test.YtgloibgmaiadfaaDoorJShown
namespace Go.Proofs.YtgloibgmaiadfaaDoor.runsWhere
open Go.ChangeShapes Go.WideShapes Go.ChangeAt Go.RowKit
set_option linter.unusedVariables false

theorem take_count {l : List Int} {k : Nat} {z : Int} (g : Int) (h : l[k]? = some z) : (l.take (k + 1)).count g = (l.take k).count g + if z = g then 1 else 0 := by
  rw [List.take_add_one, h, List.count_append]
  simp [List.count_singleton]
theorem count_le (l : List Int) (g : Int) : l.count g ≤ l.length := List.count_le_length
set_option maxRecDepth 100000 in
set_option maxHeartbeats 4000000 in
theorem walk (d : Ad) (r : Jp.Rn) (g : Int) (w : World) (h : RMI (fun b => b < w.heap.size) w d r) (hg : In64 g) (hT : Tab w) :
    Calls Tryd.prog 5 #[jv d r, .int .i64 g] w fun e w' => e = .returned (.bool true) ∧ Below w.heap.size w w' := by
  have HIN := Lib.hid h.2
  have HR := Lib.hid h.1
  have HTW := Lib.hid hT
  obtain ⟨A0, nt, ct, R, nr, cr, S, ns, cs⟩ := d
  obtain ⟨V, hV, hX, hB⟩ := B5.start w (.slice A0 nt ct) (.int .i64 r.size) (.slice R nr cr) (.slice S ns cs) (.int .u64 (r.on : Nat)) 35
  have E := Lib.hid hV
  have X0 := Lib.hid hX
  have B0 := Lib.hid hB
  have SH := Lib.hid (jshown_any V (hT.step hB))
  clear h hT hV hX hB
  unfold jv
  go_enter Tryd.func5, Tryd.ntmps5
  go_wp2_with (rw [← E.out])
  clear E
  refine SH.out.mono ?_
  rintro e w1 ⟨rfl, hb1⟩
  have X1 := Lib.hid (X0.out.step hb1)
  have B1 := Lib.hid (held_trans B0.out hb1)
  have p0 := X1.out.c0
  have p1 := X1.out.c1
  have p2 := X1.out.c2
  have p3 := X1.out.c3
  have p4 := X1.out.c4
  have hFW := fun T HT => few_any ⟨A0, nt, ct, R, nr, cr, S, ns, cs⟩ r T w1 HT (HR.out.below B1.out) HIN.out
  unfold jv at hFW
  simp only at hFW
  have FW := Lib.hid hFW
  clear hb1 SH X0 B0 hFW
  go_wp2_with fail
  by_cases hfew : ¬ FewP r
  · refine (FW.out false (Lib.hid (by simp [hfew]))).mono ?_
    rintro e w2 ⟨rfl, hb2⟩
    have BE := Lib.hid (held_trans B1.out hb2)
    go_wp2_with fail
    go_ret
    exact ⟨rfl, BE.out⟩
  have hfew := Classical.not_not.1 hfew
  have HFEW := Lib.hid hfew
  refine (FW.out true (Lib.hid (by simp [hfew]))).mono ?_
  rintro e w2 ⟨rfl, hb2⟩
  have X2 := Lib.hid (X1.out.step hb2)
  have B2 := Lib.hid (held_trans B1.out hb2)
  have p0 := X2.out.c0
  have p1 := X2.out.c1
  have p2 := X2.out.c2
  have p3 := X2.out.c3
  have p4 := X2.out.c4
  clear hb2 FW X1 B1 hfew
  have hMD := jmade_any ⟨A0, nt, ct, R, nr, cr, S, ns, cs⟩ r w2 (HR.out.below B2.out) (fun b hb => Nat.lt_of_lt_of_le hb B2.out.size) HFEW.out.low
  unfold jv at hMD
  simp only at hMD
  have MD := Lib.hid hMD
  clear hMD
  go_wp2_with fail
  refine MD.out.mono ?_
  rintro e w3 ⟨⟨A1, nt1, ct1, R1, nr1, cr1, S1, ns1, cs1⟩, rfl, hm3, hb3⟩
  unfold jv
  simp only
  have hbn := below_new w3 (.cells #[.slice A1 nt1 ct1, .int .i64 r.size, .slice R1 nr1 cr1, .slice S1 ns1 cs1, .int .u64 (r.on : Nat)] 29)
  have hY := B5.new w3 (.slice A1 nt1 ct1) (.int .i64 r.size) (.slice R1 nr1 cr1) (.slice S1 ns1 cs1) (.int .u64 (r.on : Nat)) 29
  obtain ⟨V4, hV4⟩ : ∃ V4, V4 = w3.alloc (.cells #[.slice A1 nt1 ct1, .int .i64 r.size, .slice R1 nr1 cr1, .slice S1 ns1 cs1, .int .u64 (r.on : Nat)] 29) := ⟨_, rfl⟩
  rw [← hV4] at hbn hY
  have E4 := Lib.hid hV4
  have B4 := Lib.hid (held_trans (held_trans B2.out hb3) hbn)
  have P4 := Lib.hid ((X2.out.step hb3).step hbn)
  have Y4 := Lib.hid hY
  have M4 := Lib.hid (show RM (fun b => b < w3.heap.size) V4 ⟨A1, nt1, ct1, R1, nr1, cr1, S1, ns1, cs1⟩ r from (hm3.bound.mono (fun b hb => hb.2)).below hbn)
  have HX4 := Lib.hid (show w3.heap.size < V4.heap.size from hY.lt)
  have HWX := Lib.hid (show w.heap.size ≤ w3.heap.size from (held_trans B2.out hb3).size)
  clear hm3 hb3 hbn hY hV4 MD X2 B2 p0 p1 p2 p3 p4
  have hLow := HFEW.out.low
  have t0 := ((Y4.out)).c0
  have t1 := ((Y4.out)).c1
  have t2 := ((Y4.out)).c2
  have t3 := ((Y4.out)).c3
  have t4 := ((Y4.out)).c4
  have hWH := runsWhere_any ⟨A1, nt1, ct1, R1, nr1, cr1, S1, ns1, cs1⟩ r g V4 M4.out hLow
  unfold jv at hWH
  simp only at hWH
  have WH := Lib.hid hWH
  have HLW := Lib.hid hLow
  clear hWH hLow
  go_wp2_with (rw [← E4.out])
  clear E4
  refine WH.out.mono ?_
  rintro e w5 ⟨rfl, hb5⟩
  have hwi := Jp.whr_in r g
  obtain ⟨pp, hpp⟩ : ∃ pp, pp = (Jp.whr r g).1 := ⟨_, rfl⟩
  obtain ⟨nn, hnn⟩ : ∃ nn, nn = (Jp.whr r g).2 := ⟨_, rfl⟩
  rw [← hpp, ← hnn] at hwi
  rw [← hpp, ← hnn]
  have HWI := Lib.hid hwi
  have B5' := Lib.hid (held_trans B4.out hb5)
  have Y5 := Lib.hid (Y4.out.step hb5)
  have M5 := Lib.hid (M4.out.below hb5)
  have hAL := fun W (hm : RM (fun b => b < w3.heap.size) W ⟨A1, nt1, ct1, R1, nr1, cr1, S1, ns1, cs1⟩ r) => runsAll_any ⟨A1, nt1, ct1, R1, nr1, cr1, S1, ns1, cs1⟩ r W hm HLW.out
  unfold jv at hAL
  simp only at hAL
  have AL := Lib.hid hAL
  have t0 := ((Y5.out)).c0
  have t1 := ((Y5.out)).c1
  have t2 := ((Y5.out)).c2
  have t3 := ((Y5.out)).c3
  have t4 := ((Y5.out)).c4
  clear hpp hnn hwi hb5 hAL WH M4 Y4 B4 P4
  go_wp2_with fail
  refine (AL.out _ M5.out).mono ?_
  rintro e w6 ⟨A6, n6, c6, rfl, hr6, _, hb6⟩
  obtain ⟨l, hl⟩ : ∃ l, l = Jp.all r := ⟨_, rfl⟩
  rw [← hl] at hr6 AL HWI
  have HLL := Lib.hid (show l.length ≤ 51264 by rw [hl]; exact all_le HLW.out)
  have HNI := Lib.hid (in_any A6 n6 c6 l g w6 w6.heap.size (Lib.hid hr6.len) (by have := hr6.cap; have := hr6.most; omega) hr6.row)
  have B6 := Lib.hid (held_trans B5'.out hb6)
  have Y6 := Lib.hid (Y5.out.step hb6)
  have M6 := Lib.hid (M5.out.below hb6)
  have HLE := Lib.hid hl
  clear hr6 hb6 hl B5' Y5 M5
  go_wp2_with fail
  refine HNI.out.mono ?_
  rintro e w7 ⟨rfl, rfl⟩
  clear t0 t1 t2 t3 t4 HNI
  obtain ⟨b, hb⟩ : ∃ b, b = Tp.has l g := ⟨_, rfl⟩
  rw [← hb]
  have HBI := Lib.hid hb
  clear hb
  have HNL := Lib.hid (show ∃ m, m = l.length from ⟨_, rfl⟩)
  obtain ⟨m, hm⟩ := HNL.out
  have HM := Lib.hid hm
  have hmb : m ≤ 51264 := by rw [hm]; exact HLL.out
  clear HNL hm
  go_wp2_with fail
  go_loopw [10, 11] (fun c i wr => ∃ k : Nat, k ≤ m ∧ i = .int .i64 k ∧ c = .int .i64 ((l.take k).count g : Nat) ∧ Hid (B5 wr w3.heap.size (.slice A1 nt1 ct1) (.int .i64 r.size) (.slice R1 nr1 cr1) (.slice S1 ns1 cs1) (.int .u64 (r.on : Nat))) ∧ Hid (RM (fun b => b < w3.heap.size) wr ⟨A1, nt1, ct1, R1, nr1, cr1, S1, ns1, cs1⟩ r) ∧ Hid (Below w.heap.size w wr)) (fun _ i _ => m - (intOf i).toNat)
  case atStart => exact ⟨0, Nat.zero_le _, rfl, by simp, Y6, M6, B6⟩
  case round =>
    clear Y6 M6 B6
    obtain ⟨k, hk, rfl, rfl, YK, MK, BK⟩ := hrel
    have t0 := ((YK.out)).c0
    have t1 := ((YK.out)).c1
    have t2 := ((YK.out)).c2
    have t3 := ((YK.out)).c3
    have t4 := ((YK.out)).c4
    go_wp2_with fail
    refine (AL.out _ MK.out).mono ?_
    rintro e w8 ⟨A8, n8, c8, rfl, hr8, _, hb8⟩
    obtain rfl : m = n8 := HM.out.trans hr8.len
    have B8 := Lib.hid (held_trans BK.out hb8)
    have Y8 := Lib.hid (YK.out.step hb8)
    have M8 := Lib.hid (MK.out.below hb8)
    clear hr8 hb8 t0 t1 t2 t3 t4
    have t0 := ((Y8.out)).c0
    have t1 := ((Y8.out)).c1
    have t2 := ((Y8.out)).c2
    have t3 := ((Y8.out)).c3
    have t4 := ((Y8.out)).c4
    have HLM := Lib.hid HM.out
    by_cases hlt : k < m
    · obtain ⟨z, hz⟩ : ∃ z, l[k]? = some z := ⟨_, List.getElem?_eq_getElem (by rw [← HM.out]; exact hlt)⟩
      have HTC := Lib.hid (take_count g hz)
      have HCB := Lib.hid (show (l.take k).count g ≤ 51264 from Nat.le_trans (count_le _ _) (by rw [List.length_take]; have := HLL.out; omega))
      obtain ⟨cnt, hcnt⟩ : ∃ cnt, cnt = (l.take k).count g := ⟨_, rfl⟩
      rw [← hcnt] at HTC HCB
      rw [← hcnt]
      have HZ := Lib.hid hz
      have i0 : (0 : Int) ≤ (k : Int) := by omega
      have i1 : (k : Int) < (m : Int) := by omega
      clear hz hcnt
      go_wp2_with fail
      refine (AL.out _ M8.out).mono ?_
      rintro e w9 ⟨A9, n9, c9, rfl, hr9, _, hb9⟩
      obtain rfl : m = n9 := HLM.out.trans hr9.len
      obtain ⟨b9, o9, rfl, _, hc9⟩ := hr9.cells (by omega)
      have cz := hc9 k z HZ.out
      have B9 := Lib.hid (held_trans B8.out hb9)
      have Y9 := Lib.hid (Y8.out.step hb9)
      have M9 := Lib.hid (M8.out.below hb9)
      clear hr9 hb9 hc9 t0 t1 t2 t3 t4 Y8 M8 B8
      by_cases hzg : z = g
      · have e1 : (z == g) = true := by rw [beq_iff_eq]; exact hzg
        have HN2 := Lib.hid (show (l.take (k + 1)).count g = cnt + 1 by rw [HTC.out, if_pos hzg])
        have wc : IntKind.i64.wrap ((cnt : Int) + 1) = ((cnt + 1 : Nat) : Int) := by
          have := HCB.out
          rw [show (cnt : Int) + 1 = ((cnt + 1 : Nat) : Int) by omega]
          exact IntWalk.i64_in _ (by omega)
        subst hzg
        go_wp2_with fail
        go_roundw
        case rel => exact ⟨k + 1, by omega, by go_num, by rw [HN2.out]; first | exact wc | rw [wc] | go_num, Y9, M9, B9⟩
        case measure => simp [intOf]; omega
      · have e1 : (z == g) = false := by rw [beq_eq_false_iff_ne]; exact hzg
        have HN2 := Lib.hid (show (l.take (k + 1)).count g = cnt by rw [HTC.out, if_neg hzg, Nat.add_zero])
        go_wp2_with fail
        go_roundw
        case rel => exact ⟨k + 1, by omega, by go_num, by rw [HN2.out], Y9, M9, B9⟩
        case measure => simp [intOf]; omega
    · obtain rfl : m = k := by omega
      have HCF := Lib.hid (show (l.take m).count g = l.count g by rw [List.take_of_length_le (by rw [← HM.out]; exact Nat.le_refl _)])
      have HCB := Lib.hid (show l.count g ≤ 51264 from Nat.le_trans (count_le _ _) HLL.out)
      rw [HCF.out]
      have HNO := Lib.hid (show Jp.May r → l.count g ≤ 1 from fun hM => by
        rw [HLE.out]
        exact List.nodup_iff_count.1 hM.once.2 g)
      obtain ⟨cnt, hcnt⟩ : ∃ cnt, cnt = l.count g := ⟨_, rfl⟩
      rw [← hcnt] at HNO HCB
      rw [← hcnt]
      have hMY := fun T HT => runsMay_any ⟨A1, nt1, ct1, R1, nr1, cr1, S1, ns1, cs1⟩ r T w8 HT M8.out HLW.out (HTW.out.step B8.out)
      unfold jv at hMY
      simp only at hMY
      have MY := Lib.hid hMY
      have hb1 : b = true ↔ (0 ≤ pp ∨ 0 ≤ nn) := by
        rw [HBI.out, HWI.out.1]
        unfold Tp.has
        rw [List.contains_iff_mem]
      have hw2 := HWI.out.2
      clear hMY hcnt HCF
      by_cases hp : 0 ≤ pp
      · have hn : nn < 0 := by omega
        obtain rfl : b = true := hb1.2 (.inl hp)
        clear hb1 hw2
        by_cases hM : Jp.May r
        · have hc1 : (cnt : Int) ≤ 1 := by have := HNO.out hM; omega
          go_wp2_with fail
          refine (MY.out true (Lib.hid (by simp [hM]))).mono ?_
          rintro e w9 ⟨rfl, hb9⟩
          have BE := Lib.hid (held_trans B8.out hb9)
          go_wp2_with fail
          go_ret
          exact ⟨by first | rfl | simp [hp, hn], BE.out⟩
        · go_wp2_with fail
          refine (MY.out false (Lib.hid (by simp [hM]))).mono ?_
          rintro e w9 ⟨rfl, hb9⟩
          have BE := Lib.hid (held_trans B8.out hb9)
          go_wp2_with fail
          go_ret
          exact ⟨by first | rfl | simp [hp, hn], BE.out⟩
      · have hp' : pp < 0 := by omega
        by_cases hn : 0 ≤ nn
        · obtain rfl : b = true := hb1.2 (.inr hn)
          clear hb1 hw2
          by_cases hM : Jp.May r
          · have hc1 : (cnt : Int) ≤ 1 := by have := HNO.out hM; omega
            go_wp2_with fail
            refine (MY.out true (Lib.hid (by simp [hM]))).mono ?_
            rintro e w9 ⟨rfl, hb9⟩
            have BE := Lib.hid (held_trans B8.out hb9)
            go_wp2_with fail
            go_ret
            exact ⟨by first | rfl | simp [hp, hn], BE.out⟩
          · go_wp2_with fail
            refine (MY.out false (Lib.hid (by simp [hM]))).mono ?_
            rintro e w9 ⟨rfl, hb9⟩
            have BE := Lib.hid (held_trans B8.out hb9)
            go_wp2_with fail
            go_ret
            exact ⟨by first | rfl | simp [hp, hn], BE.out⟩
        · have hn' : nn < 0 := by omega
          obtain rfl : b = false := by
            cases b
            · rfl
            · have := hb1.1 rfl
              omega
          clear hb1 hw2
          by_cases hM : Jp.May r
          · have hc1 : (cnt : Int) ≤ 1 := by have := HNO.out hM; omega
            go_wp2_with fail
            refine (MY.out true (Lib.hid (by simp [hM]))).mono ?_
            rintro e w9 ⟨rfl, hb9⟩
            have BE := Lib.hid (held_trans B8.out hb9)
            go_wp2_with fail
            go_ret
            exact ⟨by first | rfl | simp [hp, hn], BE.out⟩
          · go_wp2_with fail
            refine (MY.out false (Lib.hid (by simp [hM]))).mono ?_
            rintro e w9 ⟨rfl, hb9⟩
            have BE := Lib.hid (held_trans B8.out hb9)
            go_wp2_with fail
            go_ret
            exact ⟨by first | rfl | simp [hp, hn], BE.out⟩
set_option maxRecDepth 100000 in
theorem lifted (os : Os) (started : os.Started) (H : Type) (enc : TypeId × Value → H) :
    ReturnsInHanded {} Tryd.checked os 5 .any (fun w args => (Rows.runsWhereSpec.pre enc Tryd.prog Tryd.f5 [] false w args ∧ laidMetH Tryd.prog laidList w) ∧ sizedMet enc Tryd.prog Tryd.f5 (OpenSpec.ofChange Rows.runsWhereSpec) false w args)
      (Rows.runsWhereSpec.post enc Tryd.prog Tryd.f5 false true false false) := by
  refine returnsInHanded_of_change_and (C := Tryd.checked) (X := fun w _ => laidMetH Tryd.prog laidList w) (fun _ _ _ hh h => h.of_heap hh) own started (by kernel_rfl) Tryd.func5
    (ChangeSpec.witness_shaped (enc := enc) (C := Tryd.checked) (os := os) (X := fun w _ => laidMetH Tryd.prog laidList w) false (World.doorLaid Tryd.prog 14 os) #[.agg #[.slice none 0 0, .int .i64 0, .slice none 0 0, .slice none 0 0, .int .u64 0], .int .i64 0] 8 rfl (World.shaped_of_RefB (by kernel_rfl) (by kernel_rfl)) (by kernel_rfl) (by kernel_rfl) (by kernel_rfl) (door_met os _)) ?_
  intro W base args ds gs before hval0 hW _ _ hL _
  have hval : ∀ (j : Nat) t v, Tryd.f5.params[j]? = some t → args[j]? = some v → Value.okWide Tryd.prog W .any base t v := hval0
  have hW' := hW
  obtain ⟨p, q, hA0, hV, rfl, hfz, hnd⟩ := hW
  have hA : DataW.TrodAll enc Tryd.prog W 0 (fun _ => true) true Tryd.f5.params.toList args.toList ds p := hA0
  rw [Tryd.params5] at hA hval
  obtain ⟨v0, vs0, d0, ds0, p0, q0, hargs, rfl, rfl, h0, r0⟩ := trodAll_cons hA
  obtain ⟨v1, vs1, d1, ds1, p1, q1, rfl, rfl, rfl, h1, r1⟩ := trodAll_cons r0
  obtain ⟨rfl, rfl, rfl⟩ := trodAll_nil r1
  obtain rfl : args = #[v0, v1] := by cases args; simp_all
  obtain ⟨rfl, rfl⟩ := trodVars_none hV
  have k0 := h0
  have lt0 : ∀ x ∈ p0, x.block < W.heap.size := by obtain ⟨m, hm⟩ := k0; exact DataW.trod_lt m _ _ _ hm
  obtain ⟨x0, y0, rfl, hr0⟩ := open_runs (hval 0 35 v0 rfl rfl) h0
  obtain ⟨a1, rfl, rfl, rfl, w1⟩ := open_int Tryd.underlying3 (hval 1 3 v1 rfl rfl) h1
  clear hA0 hval0
  refine (walk x0 y0 a1 W hr0 (in64_of_wf w1) (tab_of_laid hL)).mono fun e W' ⟨he, bel⟩ => ?_
  subst he
  exact ⟨_, rfl, _, _, _, [], _, [], hW', trodAll_mk1 (shut_bool Tryd.underlying4 _), (trodAll_cons_mk (Below.trod laidOut (by kernel_rfl) (of_decide_eq_true (by kernel_rfl)) k0 bel lt0) (trodAll_cons_mk (shut_int Tryd.underlying3 w1) trodAll_mk0)), rfl, bel.frame _, fun h => by cases h⟩
theorem over : Rows.RunsWhereSaid :=
  OpenClaim.holds_of_wide 5 Tryd.f5 rfl rfl rfl rfl rfl rfl rfl ⟨rfl, rfl, rfl, rfl, rfl⟩ rfl rfl rfl rfl rfl (by kernel_rfl) Tryd.func5 (by kernel_rfl)
    (of_decide_eq_true (by kernel_rfl)) (by unfold Func.isWrapper; first | (rw [if_pos (by decide +kernel)]; kernel_rfl) | (rw [if_neg (by decide +kernel)]; exact ⟨rfl, rfl⟩))
    (fun os started H enc _ => lifted os started H enc)
theorem proved : Rows.RunsWhereCardSaid :=
  Claim7.holds_tied_plain_at .later [] [.data] true Rows.runsWhereCard.stood.harness false
    over (fun _ h => by cases h) (by kernel_rfl) (fun _ h => by cases h) runsWhere_row_tie rfl ⟨rfl, rfl⟩ (by kernel_rfl) rfl
    (fun f fn hf hfn => by
      obtain rfl : f = 5 := Option.some.inj ((show Tryd.prog.funcNamed "catafalque/catafalquelaw15.RunsWhere" = some 5 by kernel_rfl).symm.trans hf) |>.symm
      obtain rfl : fn = Tryd.f5 := (Option.some.inj (Tryd.func5.symm.trans hfn)).symm
      exact ⟨by kernel_rfl, fun j t ht => by
        rw [Tryd.params5] at ht
        have hm : t ∈ [35, 3] := by simpa using Array.mem_of_getElem? ht
        have hall : ([35, 3].all fun u => !Tryd.prog.wantsStandIn u) = true := by kernel_rfl
        exact (show Tryd.prog.wantsStandIn t = false by simpa using List.all_eq_true.1 hall t hm)⟩)
    (by kernel_rfl)
end Go.Proofs.YtgloibgmaiadfaaDoor.runsWhere

