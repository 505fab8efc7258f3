/- StealHalf: of a victim's row a thief takes the half, rounded up; what is next there stays, if there was a row: the call answers true and changes nothing that was there; for every input. (Written by wip/gen/gen_wlaws.py: change that.) -/
import Derived.Test.YtdohnhdjlhaaaaaGreatDoorWShown
import Derived.Test.YtdohnhdjlhaaaaaGreatDoorM7
import Derived.Test.YtdohnhdjlhaaaaaGreatDoorWRefVict
import Derived.Test.YtdohnhdjlhaaaaaGreatDoorJReal
import Derived.Test.YtdohnhdjlhaaaaaGreatDoorJMade
import Derived.Test.YtdohnhdjlhaaaaaGreatDoorJFew
import Derived.Test.YtdohnhdjlhaaaaaGreatDoorJFrame
import Derived.Test.YtdohnhdjlhaaaaaGreatDoorM1
namespace Go.Proofs.YtdohnhdjlhaaaaaGreatDoor.stealHalf
open Go.ChangeShapes Go.WideShapes Go.ChangeAt Go.RowKit
set_option linter.unusedVariables false

set_option maxRecDepth 100000 in
set_option maxHeartbeats 4000000 in
theorem walk (d : Ad) (r : Jp.Rn) (p : Int) (w : World) (h : RMI (fun b => b < w.heap.size) w d r) (hp : In64 p) (hT : Tab w) :
    Calls Tryz.prog 7 #[jv d r, .int .i64 p] w fun e w' => e = .returned (.bool true) ∧ Below w.heap.size w w' := by
  have HIN := Lib.hid h.2
  have HR := Lib.hid h.1
  have HTW := Lib.hid hT
  obtain ⟨A0, nt, ct, R, nr, cr, S, ns, cs⟩ := d
  obtain ⟨V, hV, hX, hB⟩ := B5.start w (.slice A0 nt ct) (.int .i64 r.size) (.slice R nr cr) (.slice S ns cs) (.int .u64 (r.on : Nat)) 27
  have E := Lib.hid hV
  have X0 := Lib.hid hX
  have B0 := Lib.hid hB
  have SH := Lib.hid (wshown_any V (hT.step hB))
  clear h hT hV hX hB
  unfold jv
  go_enter Tryz.func7, Tryz.ntmps7
  go_wp2_with (rw [← E.out])
  clear E
  refine SH.out.mono ?_
  rintro e w1 ⟨rfl, hb1⟩
  have X1 := Lib.hid (X0.out.step hb1)
  have B1 := Lib.hid (held_trans B0.out hb1)
  have p0 := X1.out.c0
  have p1 := X1.out.c1
  have p2 := X1.out.c2
  have p3 := X1.out.c3
  have p4 := X1.out.c4
  have hFW := fun T HT => few_any ⟨A0, nt, ct, R, nr, cr, S, ns, cs⟩ r T w1 HT (HR.out.below B1.out) HIN.out
  unfold jv at hFW
  simp only at hFW
  have FW := Lib.hid hFW
  clear hb1 SH X0 B0 hFW
  go_wp2_with fail
  by_cases hfew : ¬ FewP r
  · refine (FW.out false (Lib.hid (by simp [hfew]))).mono ?_
    rintro e w2 ⟨rfl, hb2⟩
    have BE := Lib.hid (held_trans B1.out hb2)
    go_wp2_with fail
    go_ret
    exact ⟨rfl, BE.out⟩
  have hfew := Classical.not_not.1 hfew
  have HFEW := Lib.hid hfew
  refine (FW.out true (Lib.hid (by simp [hfew]))).mono ?_
  rintro e w2a ⟨rfl, hb2⟩
  have X2a := Lib.hid (X1.out.step hb2)
  have B2a := Lib.hid (held_trans B1.out hb2)
  have p0 := X2a.out.c0
  have p1 := X2a.out.c1
  have p2 := X2a.out.c2
  have p3 := X2a.out.c3
  have p4 := X2a.out.c4
  obtain ⟨Tb, hTb⟩ : ∃ Tb : Bool, (Tb = true ↔ Jp.Thief r p) := by
    by_cases h : Jp.Thief r p
    · exact ⟨true, by simp [h]⟩
    · exact ⟨false, by simp [h]⟩
  have HTB := Lib.hid hTb
  have hMY := refThief_any ⟨A0, nt, ct, R, nr, cr, S, ns, cs⟩ r p Tb w2a HTB (HR.out.below B2a.out) HFEW.out.low
  unfold jv at hMY
  simp only at hMY
  have MY := Lib.hid hMY
  clear hb2 FW X1 B1 hfew hMY hTb
  go_wp2_with fail
  refine MY.out.mono ?_
  rintro e w2 ⟨rfl, hb2⟩
  have X2 := Lib.hid (X2a.out.step hb2)
  have B2 := Lib.hid (held_trans B2a.out hb2)
  have p0 := X2.out.c0
  have p1 := X2.out.c1
  have p2 := X2.out.c2
  have p3 := X2.out.c3
  have p4 := X2.out.c4
  clear hb2 MY X2a B2a
  cases Tb
  · have BE := B2
    go_wp2_with fail
    go_ret
    exact ⟨rfl, BE.out⟩
  have HTF := Lib.hid (HTB.out.1 rfl)
  clear HTB
  have hMD := jmade_any ⟨A0, nt, ct, R, nr, cr, S, ns, cs⟩ r w2 (HR.out.below B2.out) (fun b hb => Nat.lt_of_lt_of_le hb B2.out.size) HFEW.out.low
  unfold jv at hMD
  simp only at hMD
  have MD := Lib.hid hMD
  clear hMD
  go_wp2_with fail
  refine MD.out.mono ?_
  rintro e w3 ⟨⟨A1, nt1, ct1, R1, nr1, cr1, S1, ns1, cs1⟩, rfl, hm3, hb3⟩
  unfold jv
  simp only
  have hbn := below_new w3 (.cells #[.slice A1 nt1 ct1, .int .i64 r.size, .slice R1 nr1 cr1, .slice S1 ns1 cs1, .int .u64 (r.on : Nat)] 33)
  have hY := B5.new w3 (.slice A1 nt1 ct1) (.int .i64 r.size) (.slice R1 nr1 cr1) (.slice S1 ns1 cs1) (.int .u64 (r.on : Nat)) 33
  obtain ⟨V4, hV4⟩ : ∃ V4, V4 = w3.alloc (.cells #[.slice A1 nt1 ct1, .int .i64 r.size, .slice R1 nr1 cr1, .slice S1 ns1 cs1, .int .u64 (r.on : Nat)] 33) := ⟨_, rfl⟩
  rw [← hV4] at hbn hY
  have E4 := Lib.hid hV4
  have B4 := Lib.hid (held_trans (held_trans B2.out hb3) hbn)
  have P4 := Lib.hid ((X2.out.step hb3).step hbn)
  have Y4 := Lib.hid hY
  have M4 := Lib.hid (show RM (fun b => b < w3.heap.size) V4 ⟨A1, nt1, ct1, R1, nr1, cr1, S1, ns1, cs1⟩ r from (hm3.bound.mono (fun b hb => hb.2)).below hbn)
  have HX4 := Lib.hid (show w3.heap.size < V4.heap.size from hY.lt)
  have HWX := Lib.hid (show w.heap.size ≤ w3.heap.size from (held_trans B2.out hb3).size)
  clear hm3 hb3 hbn hY hV4 MD X2 B2 p0 p1 p2 p3 p4
  have YP4 := P4
  have YX4 := Y4
  have MX4 := M4
  have MP4 := Lib.hid (HR.out.below B4.out)
  have BW4 := B4
  have HLW := Lib.hid HFEW.out.low
  clear P4 Y4 M4 B4
  obtain ⟨k, hpk, hk⟩ := Jp.thief_lt HTF.out
  subst hpk
  have HK := Lib.hid hk
  obtain ⟨vs, hvs⟩ : ∃ vs, vs = Jp.victims r k 3 := ⟨_, rfl⟩
  have HVS := Lib.hid hvs
  obtain ⟨lo, hlo⟩ : ∃ lo, lo = Jp.steal r k 3 := ⟨_, rfl⟩
  have HLO := Lib.hid hlo
  clear hvs hlo hk
  have hcc := stealVict_any ⟨A1, nt1, ct1, R1, nr1, cr1, S1, ns1, cs1⟩ r k 3 V4 MX4.out (fun b hb => Nat.lt_trans hb YX4.out.lt) HLW.out hp ⟨by decide, by decide⟩ (HTW.out.step BW4.out)
  rw [← HVS.out] at hcc
  unfold jv at hcc
  simp only at hcc
  have C5 := Lib.hid hcc
  clear hcc
  have t0 := YX4.out.c0
  have t1 := YX4.out.c1
  have t2 := YX4.out.c2
  have t3 := YX4.out.c3
  have t4 := YX4.out.c4
  go_wp2_with (rw [← E4.out])
  clear E4
  refine C5.out.mono ?_
  rintro e V5 ⟨Av, L, cv, rfl, hrv, _, hb⟩
  have YP5 := Lib.hid (YP4.out.step hb)
  have MP5 := Lib.hid (MP4.out.below hb)
  have YX5 := Lib.hid (YX4.out.step hb)
  have MX5 := Lib.hid (MX4.out.below hb)
  have BW5 := Lib.hid (held_trans BW4.out hb)
  clear BW4 YP4 MP4 YX4 MX4 
  have RV5 := Lib.hid hrv
  have hL := hrv.len
  clear hb hrv C5 t0 t1 t2 t3 t4
  cases vs with
  | nil =>
    have hL0 : L = 0 := by rw [← hL]; rfl
    subst hL0
    clear hL
    go_wp2_with fail
    go_ret
    exact ⟨rfl, BW5.out⟩
  | cons qq rest =>
    obtain ⟨j, ⟨x, tl⟩, g, t, rfl, hj, hjk, hx, hb2, hso⟩ := Jp.steal_first HTF.out HK.out (far := 3) (q := qq) (l := rest) HVS.out.symm
    rw [← Jp.steal_on HTF.out, ← HLO.out] at hso
    obtain ⟨hf, hhf⟩ : ∃ hf, hf = Rp.half (x, tl) := ⟨_, rfl⟩
    rw [← hhf] at hb2 hso
    have HSO := Lib.hid hso
    have HHF := Lib.hid hhf
    have HB2 := Lib.hid hb2
    have hL1 : 0 < L := by rw [← hL]; simp
    have l0 : (0 : Int) < (L : Int) := by omega
    have l1 : ((L : Int) == 0) = false := by rw [beq_eq_false_iff_ne]; omega
    obtain ⟨bV, oV, hAv, _, hcV⟩ := RV5.out.cells hL1
    have cV := hcV 0 (j : Int) rfl
    rw [Nat.add_zero] at cV
    subst hAv
    have hnr := MX5.out.nr
    simp only at hnr
    have m1 : ¬ (j : Int) < 0 := by omega
    have m2 : ¬ (nr1 : Int) ≤ (j : Int) := by omega
    have m3 : ((j : Int) == (k : Int)) = false := by rw [beq_eq_false_iff_ne]; omega
    have m4 : (j : Int) < (nr1 : Int) := by omega
    have m5 : (0 : Int) ≤ (j : Int) := by omega
    have m6 : (k : Int) < (nr1 : Int) := by have := HK.out; omega
    have m7 : (0 : Int) ≤ (k : Int) := by omega
    have HX := Lib.hid hx
    have HJ := Lib.hid hj
    have HJK := Lib.hid hjk
    clear hcV hso hhf hb2 hL hx hj hjk hnr
    have hcc := stealSteal_any ⟨A1, nt1, ct1, R1, nr1, cr1, S1, ns1, cs1⟩ r k 3 V5 MX5.out (fun b hb => Nat.lt_trans hb YX5.out.lt) HLW.out hp ⟨by decide, by decide⟩ (HTW.out.step BW5.out)
    rw [← HLO.out] at hcc
    unfold jv at hcc
    simp only at hcc
    have C6 := Lib.hid hcc
    clear hcc
    have t0 := YX5.out.c0
    have t1 := YX5.out.c1
    have t2 := YX5.out.c2
    have t3 := YX5.out.c3
    have t4 := YX5.out.c4
    go_wp2_with fail
    refine C6.out.mono ?_
    rintro e u6 ⟨⟨T6, nt6, ct6, R6, nr6, cr6, S6, ns6, cs6⟩, rfl, hm, hb⟩
    unfold jv
    simp only
    have hbn := below_new u6 (.cells #[.slice T6 nt6 ct6, .int .i64 lo.1.size, .slice R6 nr6 cr6, .slice S6 ns6 cs6, .int .u64 (lo.1.on : Nat)] 33)
    have hY := B5.new u6 (.slice T6 nt6 ct6) (.int .i64 lo.1.size) (.slice R6 nr6 cr6) (.slice S6 ns6 cs6) (.int .u64 (lo.1.on : Nat)) 33
    obtain ⟨V6, hV⟩ : ∃ V6, V6 = u6.alloc (.cells #[.slice T6 nt6 ct6, .int .i64 lo.1.size, .slice R6 nr6 cr6, .slice S6 ns6 cs6, .int .u64 (lo.1.on : Nat)] 33) := ⟨_, rfl⟩
    rw [← hV] at hbn hY
    have E6 := Lib.hid hV
    have hbj := hb.trans (hbn.mono hb.size)
    have YP6 := Lib.hid (YP5.out.step hbj)
    have MP6 := Lib.hid (MP5.out.below hbj)
    have YX6 := Lib.hid (YX5.out.step hbj)
    have MX6 := Lib.hid (MX5.out.below hbj)
    have RV6 := Lib.hid (RV5.out.below hbj)
    have BW6 := Lib.hid (held_trans BW5.out hbj)
    clear BW5 YP5 MP5 YX5 MX5 RV5
    have Ya6 := Lib.hid hY
    have Ma6 := Lib.hid ((hm.bound.mono (G := fun b => b < u6.heap.size) (fun b hb => hb.2)).below hbn)
    clear hV hY hbn hm hb hbj C6 t0 t1 t2 t3 t4
    have hrj : lo.1.rings[j]? = some hf.1 := by rw [HSO.out]; show ((r.rings.set j hf.1).set k (0, t))[j]? = _; rw [List.getElem?_set_ne (fun e => HJK.out e.symm), List.getElem?_set_self HJ.out]
    have hrk : lo.1.rings[k]? = some (0, t) := by rw [HSO.out]; show ((r.rings.set j hf.1).set k (0, t))[k]? = _; rw [List.getElem?_set_self (by simpa using HK.out)]
    obtain ⟨xb, xo, Ax, na, ca, eX, _, x0, x1, hxr⟩ := MX6.out.ringAt HX.out
    obtain ⟨ab, ao, Aj, nj, cj, eA, _, aj0, aj1, hjr⟩ := Ma6.out.ringAt hrj
    obtain ⟨ab', ao', Ak, nk, ck, eA', _, ak0, ak1, hkr⟩ := Ma6.out.ringAt hrk
    have hnr := MX6.out.nr
    have hnra := Ma6.out.nr
    simp only at eX eA eA' hxr hjr hkr hnr hnra aj0 ak0
    have er : nr6 = nr1 := by rw [← hnra.1, ← hnr.1, HSO.out]; simp [Jp.ringed]
    have m4' : (j : Int) < (nr6 : Int) := by omega
    have m6' : (k : Int) < (nr6 : Int) := by omega
    have e0 : ((nr6 : Int) != (nr1 : Int)) = false := by rw [er]; simp
    subst eX eA
    injection eA' with eA'
    injection eA' with e1 e2 _
    subst e1 e2
    have q0 : (lo.2.1 == 0) = false := by rw [HSO.out, beq_eq_false_iff_ne]; have : g ∈ Rp.all (x, tl) := Jp.half_mem (by rw [← HHF.out, HB2.out]; exact List.mem_cons_self ..); have := HTF.out.may.once.1 g (Jp.mem_all.2 (.inl ⟨_, List.mem_of_getElem? HX.out, this⟩)); simp only; omega
    have tp1 := YP6.out.c1
    have tx2 := YX6.out.c2
    have ta2 := Ya6.out.c2
    have hnl := hxr.len
    have HXR := Lib.hid hxr
    have HJR := Lib.hid hjr
    have hkl := hkr.len
    have hjl := hjr.len
    have hts : t.length ≤ 16 ∧ (t.length : Int) ≤ r.size := by
      have h1 := Jp.may_size HTF.out.may.low (HTF.out.may.ring j _ HX.out).1
      have h2 := Rp.half_len (x, tl)
      rw [← HHF.out, HB2.out, List.length_cons] at h2
      have h3 := HTF.out.may.low
      have h4 := HTF.out.may.high
      simp only at h1 h2
      omega
    have hna : na ≤ 400 := by rw [← hnl]; exact HLW.out.ring (x, tl) (List.mem_of_getElem? HX.out)
    clear hrj hrk hnr hnra hxr hjr hkr er
    by_cases hn0 : na = 0
    · skip
      have htl : tl = [] := List.length_eq_zero_iff.1 (by omega)
      have hh : hf = ((0, []), Rp.all (x, [])) := by rw [HHF.out, htl]; rfl
      have hj0 : hf.1.1 = 0 := by rw [hh]
      have hgx : (lo.2.1 == x) = true := by
        have h1 := HB2.out
        rw [hh] at h1
        have h2 : g = x := by
          unfold Rp.all at h1
          simp only at h1
          split at h1
          · cases h1
          · injection h1 with h1 _; exact h1.symm
        rw [HSO.out, h2]; simp
      have hal := all_any hf.1.1 Aj nj cj hf.1.2 V6 HJR.out (by rw [← hjl, hh]; simp)
      rw [show Rp.all (hf.1.1, hf.1.2) = [] by rw [hh]; rfl] at hal
      have AL := Lib.hid hal
      have hz : ((na : Int) == 0) = true := by rw [beq_iff_eq]; omega
      clear hal hh hj0 htl
      go_wp2_with (rw [← E6.out])
      refine AL.out.mono ?_
      rintro e x9 ⟨A9, n9, c9, rfl, h9, _, hb9⟩
      have hn9 : n9 = 0 := h9.len.symm
      subst hn9
      have BE := Lib.hid (held_trans BW6.out hb9)
      clear h9 hb9 AL
      go_wp2_with fail
      go_ret
      exact ⟨rfl, BE.out⟩
    · skip
      have hne : tl ≠ [] := fun e => by rw [e] at hnl; simp at hnl; omega
      obtain ⟨z0, tl', htl⟩ := List.exists_cons_of_ne_nil hne
      have hh : hf = ((x, tl.drop (Rp.hf tl)), tl.take (Rp.hf tl)) := by rw [HHF.out]; unfold Rp.half; rw [if_neg (by show ¬ tl.length = 0; omega)]
      have hhf : Rp.hf tl = na - na / 2 := by unfold Rp.hf; rw [hnl]
      obtain ⟨bz, oz, hAx, _, hcz⟩ := HXR.out.cells (by omega)
      have cz := hcz 0 z0 (by rw [htl]; rfl)
      rw [Nat.add_zero] at cz
      subst hAx
      have b1 : (lo.2.1 == z0) = true := by
        have h1 := HB2.out
        rw [hh] at h1
        have h2 : g = z0 := by
          have h3 : Rp.hf tl = Rp.hf tl - 1 + 1 := by omega
          simp only at h1
          rw [htl, ← htl, h3, htl, List.take_succ_cons] at h1
          injection h1 with h1 _
          exact h1.symm
        rw [HSO.out, h2]; simp
      have hjn : nj = na / 2 := by rw [← hjl, hh]; simp only [List.length_drop]; omega
      have tq : Int.tdiv (na : Int) 2 = ((na / 2 : Nat) : Int) := rfl
      have b2 : ((nj : Int) == (na : Int) / 2) = true := by rw [beq_iff_eq]; omega
      have b2' : ((nj : Int) == ((na / 2 : Nat) : Int)) = true := by rw [beq_iff_eq]; omega
      have b3 : (hf.1.1 == x) = true := by rw [hh]; simp
      have b4 : (nk : Int) ≤ r.size := by rw [← hkl]; exact hts.2
      have hz : ((na : Int) == 0) = false := by rw [beq_eq_false_iff_ne]; omega
      have hz1 : (0 : Int) < (na : Int) := by omega
      have hz2 : 0 < na := by omega
      clear hh hhf hne htl hcz hjn hjl hkl hnl hts hn0
      go_wp2_with (rw [← E6.out])
      go_quiet (fail)
      go_wp2_with fail
      go_ret
      exact ⟨rfl, held_trans BW6.out (below_drewN (Below.refl _ _) _)⟩
set_option maxRecDepth 100000 in
theorem lifted (os : Os) (started : os.Started) (H : Type) (enc : TypeId × Value → H) :
    ReturnsInHanded {} Tryz.checked os 7 .any (fun w args => (Rows.stealHalfSpec.pre enc Tryz.prog Tryz.f7 [] false w args ∧ laidMetH Tryz.prog laidList w) ∧ sizedMet enc Tryz.prog Tryz.f7 (OpenSpec.ofChange Rows.stealHalfSpec) false w args)
      (Rows.stealHalfSpec.post enc Tryz.prog Tryz.f7 false true false false) := by
  refine returnsInHanded_of_change_and (C := Tryz.checked) (X := fun w _ => laidMetH Tryz.prog laidList w) (fun _ _ _ hh h => h.of_heap hh) own started (by kernel_rfl) Tryz.func7
    (ChangeSpec.witness_shaped (enc := enc) (C := Tryz.checked) (os := os) (X := fun w _ => laidMetH Tryz.prog laidList w) false (World.doorLaid Tryz.prog 14 os) #[.agg #[.slice none 0 0, .int .i64 0, .slice none 0 0, .slice none 0 0, .int .u64 0], .int .i64 0] 8 rfl (World.shaped_of_RefB (by kernel_rfl) (by kernel_rfl)) (by kernel_rfl) (by kernel_rfl) (by kernel_rfl) (door_met os _)) ?_
  intro W base args ds gs before hval0 hW _ _ hL _
  have hval : ∀ (j : Nat) t v, Tryz.f7.params[j]? = some t → args[j]? = some v → Value.okWide Tryz.prog W .any base t v := hval0
  have hW' := hW
  obtain ⟨p, q, hA0, hV, rfl, hfz, hnd⟩ := hW
  have hA : DataW.TrodAll enc Tryz.prog W 0 (fun _ => true) true Tryz.f7.params.toList args.toList ds p := hA0
  rw [Tryz.params7] at hA hval
  obtain ⟨v0, vs0, d0, ds0, p0, q0, hargs, rfl, rfl, h0, r0⟩ := trodAll_cons hA
  obtain ⟨v1, vs1, d1, ds1, p1, q1, rfl, rfl, rfl, h1, r1⟩ := trodAll_cons r0
  obtain ⟨rfl, rfl, rfl⟩ := trodAll_nil r1
  obtain rfl : args = #[v0, v1] := by cases args; simp_all
  obtain ⟨rfl, rfl⟩ := trodVars_none hV
  have k0 := h0
  have lt0 : ∀ x ∈ p0, x.block < W.heap.size := by obtain ⟨m, hm⟩ := k0; exact DataW.trod_lt m _ _ _ hm
  obtain ⟨x0, y0, rfl, hr0⟩ := open_runs (hval 0 27 v0 rfl rfl) h0
  obtain ⟨a1, rfl, rfl, rfl, w1⟩ := open_int Tryz.underlying3 (hval 1 3 v1 rfl rfl) h1
  clear hA0 hval0
  refine (walk x0 y0 a1 W hr0 (in64_of_wf w1) (tab_of_laid hL)).mono fun e W' ⟨he, bel⟩ => ?_
  subst he
  exact ⟨_, rfl, _, _, _, [], _, [], hW', trodAll_mk1 (shut_bool Tryz.underlying4 _), (trodAll_cons_mk (Below.trod laidOut (by kernel_rfl) (of_decide_eq_true (by kernel_rfl)) k0 bel lt0) (trodAll_cons_mk (shut_int Tryz.underlying3 w1) trodAll_mk0)), rfl, bel.frame _, fun h => by cases h⟩
theorem over : Rows.StealHalfSaid :=
  OpenClaim.holds_of_wide 7 Tryz.f7 rfl rfl rfl rfl rfl rfl rfl ⟨rfl, rfl, rfl, rfl, rfl⟩ rfl rfl rfl rfl rfl (by kernel_rfl) Tryz.func7 (by kernel_rfl)
    (of_decide_eq_true (by kernel_rfl)) (by unfold Func.isWrapper; first | (rw [if_pos (by decide +kernel)]; kernel_rfl) | (rw [if_neg (by decide +kernel)]; exact ⟨rfl, rfl⟩))
    (fun os started H enc _ => lifted os started H enc)
theorem proved : Rows.StealHalfCardSaid :=
  Claim7.holds_tied_plain_at .later [] [.data] true Rows.stealHalfCard.stood.harness false
    over (fun _ h => by cases h) (by kernel_rfl) (fun _ h => by cases h) stealHalf_row_tie rfl ⟨rfl, rfl⟩ (by kernel_rfl) rfl
    (fun f fn hf hfn => by
      obtain rfl : f = 7 := Option.some.inj ((show Tryz.prog.funcNamed "catafalque/catafalquelaw17.StealHalf" = some 7 by kernel_rfl).symm.trans hf) |>.symm
      obtain rfl : fn = Tryz.f7 := (Option.some.inj (Tryz.func7.symm.trans hfn)).symm
      exact ⟨by kernel_rfl, fun j t ht => by
        rw [Tryz.params7] at ht
        have hm : t ∈ [27, 3] := by simpa using Array.mem_of_getElem? ht
        have hall : ([27, 3].all fun u => !Tryz.prog.wantsStandIn u) = true := by kernel_rfl
        exact (show Tryz.prog.wantsStandIn t = false by simpa using List.all_eq_true.1 hall t hm)⟩)
    (by kernel_rfl)
end Go.Proofs.YtdohnhdjlhaaaaaGreatDoor.stealHalf

