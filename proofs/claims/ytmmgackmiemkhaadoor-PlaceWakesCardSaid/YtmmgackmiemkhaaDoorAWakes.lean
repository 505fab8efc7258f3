/- PlaceWakes: who is woken is idle, and plugged, and nobody who is both is nearer; nobody is, just if nobody is both: the call answers true and changes nothing that was there; for every input. (Written by wip/gen/gen_alaws.py: change that.) -/
import Derived.Test.YtmmgackmiemkhaaDoorAShown
import Derived.Test.YtmmgackmiemkhaaDoorJMade
import Derived.Test.YtmmgackmiemkhaaDoorJFew
import Derived.Test.YtmmgackmiemkhaaDoorM7
import Derived.Test.YtmmgackmiemkhaaDoorM5
import Derived.Test.YtmmgackmiemkhaaDoorM6
import Derived.Test.YtmmgackmiemkhaaDoorM3
namespace Go.Proofs.YtmmgackmiemkhaaDoor.placeWakes
open Go.ChangeShapes Go.WideShapes Go.ChangeAt Go.RowKit
set_option linter.unusedVariables false

structure AM (w : World) (X : Nat) (r : Jp.Rn) (d0 d : Ad) (wr : World) : Prop where
  pbox : B5 wr w.heap.size (.slice d0.T d0.nt d0.ct) (.int .i64 r.size) (.slice d0.R d0.nr d0.cr) (.slice d0.S d0.ns d0.cs) (.int .u64 (r.on : Nat))
  box : B5 wr X (.slice d.T d.nt d.ct) (.int .i64 r.size) (.slice d.R d.nr d.cr) (.slice d.S d.ns d.cs) (.int .u64 (r.on : Nat))
  mem : RM (fun b => b < X) wr d r
  below : Below w.heap.size w wr
set_option maxRecDepth 100000 in
set_option maxHeartbeats 4000000 in
theorem walk (d : Ad) (r : Jp.Rn) (idle : Nat) (p : Int) (w : World) (h : RMI (fun b => b < w.heap.size) w d r) (hi : idle < 18446744073709551616) (hp : In64 p) (hT : Tab w) :
    Calls Tryd.prog 3 #[jv d r, .int .u64 (idle : Nat), .int .i64 p] w fun e w' => e = .returned (.bool true) ∧ Below w.heap.size w w' := by
  have HIN := Lib.hid h.2
  have HR := Lib.hid h.1
  have HTW := Lib.hid hT
  obtain ⟨A0, nt, ct, R, nr, cr, S, ns, cs⟩ := d
  obtain ⟨V, hV, hX, hB⟩ := B5.start w (.slice A0 nt ct) (.int .i64 r.size) (.slice R nr cr) (.slice S ns cs) (.int .u64 (r.on : Nat)) 27
  have E := Lib.hid hV
  have X0 := Lib.hid hX
  have B0 := Lib.hid hB
  have SH := Lib.hid (ashown_any V (hT.step hB))
  clear h hT hV hX hB
  unfold jv
  go_enter Tryd.func3, Tryd.ntmps3
  go_wp2_with (rw [← E.out])
  clear E
  refine SH.out.mono ?_
  rintro e w1 ⟨rfl, hb1⟩
  have X1 := Lib.hid (X0.out.step hb1)
  have B1 := Lib.hid (held_trans B0.out hb1)
  have p0 := X1.out.c0
  have p1 := X1.out.c1
  have p2 := X1.out.c2
  have p3 := X1.out.c3
  have p4 := X1.out.c4
  have hFW := fun T HT => few_any ⟨A0, nt, ct, R, nr, cr, S, ns, cs⟩ r T w1 HT (HR.out.below B1.out) HIN.out
  unfold jv at hFW
  simp only at hFW
  have FW := Lib.hid hFW
  clear hb1 SH X0 B0 hFW
  go_wp2_with fail
  by_cases hfew : ¬ FewP r
  · refine (FW.out false (Lib.hid (by simp [hfew]))).mono ?_
    rintro e w2 ⟨rfl, hb2⟩
    have BE := Lib.hid (held_trans B1.out hb2)
    go_wp2_with fail
    go_ret
    exact ⟨rfl, BE.out⟩
  have hfew := Classical.not_not.1 hfew
  have HFEW := Lib.hid hfew
  refine (FW.out true (Lib.hid (by simp [hfew]))).mono ?_
  rintro e w2a ⟨rfl, hb2⟩
  have X2a := Lib.hid (X1.out.step hb2)
  have B2a := Lib.hid (held_trans B1.out hb2)
  have p0 := X2a.out.c0
  have p1 := X2a.out.c1
  have p2 := X2a.out.c2
  have p3 := X2a.out.c3
  have p4 := X2a.out.c4
  obtain ⟨Tb, hTb⟩ : ∃ Tb : Bool, (Tb = true ↔ Jp.May r) := by
    by_cases h : Jp.May r
    · exact ⟨true, by simp [h]⟩
    · exact ⟨false, by simp [h]⟩
  have HTB := Lib.hid hTb
  have hMY := jrefMay_any ⟨A0, nt, ct, R, nr, cr, S, ns, cs⟩ r Tb w2a HTB (HR.out.below B2a.out) HFEW.out.low
  unfold jv at hMY
  simp only at hMY
  have MY := Lib.hid hMY
  clear hb2 FW X1 B1 hfew hMY hTb
  go_wp2_with fail
  refine MY.out.mono ?_
  rintro e w2 ⟨rfl, hb2⟩
  have X2 := Lib.hid (X2a.out.step hb2)
  have B2 := Lib.hid (held_trans B2a.out hb2)
  have p0 := X2.out.c0
  have p1 := X2.out.c1
  have p2 := X2.out.c2
  have p3 := X2.out.c3
  have p4 := X2.out.c4
  clear hb2 MY X2a B2a
  cases Tb
  · have BE := B2
    go_wp2_with fail
    go_ret
    exact ⟨rfl, BE.out⟩
  have HMAY := Lib.hid (HTB.out.1 rfl)
  clear HTB
  have hnr0 := HR.out.nr
  simp only at hnr0
  by_cases hpo : p < 0 ∨ (r.rings.length : Int) ≤ p
  · have BE := B2
    by_cases hp0 : p < 0
    · have hq0 : decide (p < 0) = true := decide_eq_true hp0
      go_wp2_with fail
      go_ret
      exact ⟨rfl, BE.out⟩
    · have hp1 : (nr : Int) ≤ p := by omega
      have hq0 : decide (p < 0) = false := decide_eq_false hp0
      have hq1 : decide ((nr : Int) ≤ p) = true := decide_eq_true hp1
      go_wp2_with fail
      go_ret
      exact ⟨rfl, BE.out⟩
  have hp0 : ¬ p < 0 := by omega
  have hp1 : ¬ (nr : Int) ≤ p := by omega
  have hq0 : decide (p < 0) = false := decide_eq_false hp0
  have hq1 : decide ((nr : Int) ≤ p) = false := decide_eq_false hp1
  have hMD := jmade_any ⟨A0, nt, ct, R, nr, cr, S, ns, cs⟩ r w2 (HR.out.below B2.out) (fun b hb => Nat.lt_of_lt_of_le hb B2.out.size) HFEW.out.low
  unfold jv at hMD
  simp only at hMD
  have MD := Lib.hid hMD
  clear hMD
  go_wp2_with fail
  refine MD.out.mono ?_
  rintro e w3 ⟨⟨A1, nt1, ct1, R1, nr1, cr1, S1, ns1, cs1⟩, rfl, hm3, hb3⟩
  unfold jv
  simp only
  have hbn := below_new w3 (.cells #[.slice A1 nt1 ct1, .int .i64 r.size, .slice R1 nr1 cr1, .slice S1 ns1 cs1, .int .u64 (r.on : Nat)] 33)
  have hY := B5.new w3 (.slice A1 nt1 ct1) (.int .i64 r.size) (.slice R1 nr1 cr1) (.slice S1 ns1 cs1) (.int .u64 (r.on : Nat)) 33
  obtain ⟨V4, hV4⟩ : ∃ V4, V4 = w3.alloc (.cells #[.slice A1 nt1 ct1, .int .i64 r.size, .slice R1 nr1 cr1, .slice S1 ns1 cs1, .int .u64 (r.on : Nat)] 33) := ⟨_, rfl⟩
  rw [← hV4] at hbn hY
  have E4 := Lib.hid hV4
  have B4 := Lib.hid (held_trans (held_trans B2.out hb3) hbn)
  have P4 := Lib.hid ((X2.out.step hb3).step hbn)
  have Y4 := Lib.hid hY
  have M4 := Lib.hid (show RM (fun b => b < w3.heap.size) V4 ⟨A1, nt1, ct1, R1, nr1, cr1, S1, ns1, cs1⟩ r from (hm3.bound.mono (fun b hb => hb.2)).below hbn)
  have HX4 := Lib.hid (show w3.heap.size < V4.heap.size from hY.lt)
  have HWX := Lib.hid (show w.heap.size ≤ w3.heap.size from (held_trans B2.out hb3).size)
  clear hm3 hb3 hbn hY hV4 MD X2 B2 p0 p1 p2 p3 p4
  have YP4 := P4
  have YX4 := Y4
  have MX4 := M4
  have MP4 := Lib.hid (HR.out.below B4.out)
  have BW4 := B4
  have HLW := Lib.hid HFEW.out.low
  clear P4 Y4 M4 B4
  obtain ⟨k, hpk, hk⟩ : ∃ k : Nat, p = k ∧ k < r.rings.length := ⟨p.toNat, by omega, by omega⟩
  subst hpk
  have HK := Lib.hid hk
  have HI := Lib.hid hi
  clear hpo hp0 hp1 hq0 hq1 hnr0 hk
  have hon := HR.out.on
  have HON := Lib.hid hon
  obtain ⟨wk, hwk⟩ : ∃ wk, wk = Jp.wake r idle k := ⟨_, rfl⟩
  have hwn := Jp.woken HMAY.out HK.out idle
  rw [← hwk] at hwn
  have HWK := Lib.hid hwk
  have HWN := Lib.hid hwn
  obtain ⟨bo, hbo⟩ : ∃ bo, bo = idle &&& r.on := ⟨_, rfl⟩
  have hand : bits .and .u64 (idle : Int) (r.on : Int) = (bo : Int) := by rw [hbo]; exact bits_and_u64_nat _ _ hi hon
  have HBL := Lib.hid (show bo < 18446744073709551616 by rw [hbo]; exact Zp.and_lt hi)
  have HSM := Lib.hid (show bo ≠ 0 ↔ ∃ q : Int, Jp.both r idle q = true by rw [hbo]; exact Jp.some_both hi)
  have HBO := Lib.hid (show ∀ z : Int, Zp.has bo z = Jp.both r idle z from fun z => by rw [hbo, Jp.both_and])
  clear hwk hwn hbo hon
  have hcc := placeWake_any ⟨A1, nt1, ct1, R1, nr1, cr1, S1, ns1, cs1⟩ r idle (k : Int) V4 MX4.out HLW.out HI.out hp (HTW.out.step BW4.out)
  rw [← HWK.out] at hcc
  unfold jv at hcc
  simp only at hcc
  have C5 := Lib.hid hcc
  clear hcc
  have t0 := YX4.out.c0
  have t1 := YX4.out.c1
  have t2 := YX4.out.c2
  have t3 := YX4.out.c3
  have t4 := YX4.out.c4
  go_wp2_with (rw [← E4.out])
  clear E4
  refine C5.out.mono ?_
  rintro e V5 ⟨rfl, hb⟩
  have YP5 := Lib.hid (YP4.out.step hb)
  have MP5 := Lib.hid (MP4.out.below hb)
  have YX5 := Lib.hid (YX4.out.step hb)
  have MX5 := Lib.hid (MX4.out.below hb)
  have BW5 := Lib.hid (held_trans BW4.out hb)
  clear BW4 YP4 MP4 YX4 MX4 
  clear hb C5 t0 t1 t2 t3 t4
  have t0 := YP5.out.c0
  have t1 := YP5.out.c1
  have t2 := YP5.out.c2
  have t3 := YP5.out.c3
  have t4 := YP5.out.c4
  rcases HWN.out.both with e1 | ⟨j, e1, hj⟩
  · skip
    have hb0 : bo = 0 := Classical.not_not.1 (fun h => by
      obtain ⟨z, hz⟩ := HSM.out.1 h
      obtain ⟨o, rfl, _⟩ := Jp.both_lt HMAY.out hz
      exact (HWN.out.nearest HMAY.out HK.out hz).2 e1)
    subst e1 hb0
    have b1 : (((0 : Nat) : Int) != 0) = false := rfl
    go_wp2_with fail
    go_ret
    exact ⟨rfl, BW5.out⟩
  · skip
    subst e1
    have hjl : j < nr := by
      obtain ⟨j', e, h⟩ := Jp.both_lt HMAY.out hj
      have := HR.out.nr
      simp only at this
      omega
    have b0 : bo ≠ 0 := HSM.out.2 ⟨_, hj⟩
    have b1 : ((bo : Int) != 0) = true := by rw [bne_iff_ne]; omega
    have b2 : ((j : Int) == -1) = false := by rw [beq_eq_false_iff_ne]; omega
    have b3 : ¬ (j : Int) < 0 := by omega
    have b4 : ¬ (nr : Int) ≤ (j : Int) := by omega
    have b4' : ¬ nr ≤ j := by omega
    have HJ := Lib.hid hj
    have HNR := Lib.hid hjl
    clear hj b0 hjl
    go_wp2_with fail
    go_loopw [11] (fun i wr => ∃ o : Nat, o ≤ nr ∧ i = .int .i64 o ∧ Hid (AM w w3.heap.size r ⟨A0, nt, ct, R, nr, cr, S, ns, cs⟩ ⟨A1, nt1, ct1, R1, nr1, cr1, S1, ns1, cs1⟩ wr)) (fun i _ => nr - (intOf i).toNat)
    case atStart => exact ⟨0, Nat.zero_le _, rfl, Lib.hid ⟨YP5.out, YX5.out, MX5.out, BW5.out⟩⟩
    case round =>
      clear YP5 YX5 MX5 BW5 t0 t1 t2 t3 t4
      obtain ⟨o, ho, rfl, G⟩ := hrel
      obtain ⟨V5, hVr⟩ : ∃ V, V = wr := ⟨_, rfl⟩
      rw [← hVr] at G
      have HVR := Lib.hid hVr
      have YP5 := Lib.hid G.out.pbox
      have YX5 := Lib.hid G.out.box
      have MX5 := Lib.hid G.out.mem
      have MP5 := Lib.hid (HR.out.below G.out.below)
      have BW5 := Lib.hid G.out.below
      clear G hVr
      by_cases hlt : o < nr
      · skip
        have l1 : (o : Int) < (nr : Int) := by omega
        have l2 : o < nr := hlt
        have wo : IntKind.i64.wrap ((o : Int) + 1) = ((o + 1 : Nat) : Int) := by
          rw [show ((o + 1 : Nat) : Int) = (o : Int) + 1 by omega]
          exact IntWalk.i64_in _ (by have h7 := HR.out.nr; have h8 := HLW.out.rings; simp only at h7; omega)
        obtain ⟨bb, hbb⟩ : ∃ bb, bb = Zp.has bo (o : Int) := ⟨_, rfl⟩
        have HB := Lib.hid (show bb = Jp.both r idle (o : Int) by rw [hbb]; exact HBO.out _)
        have hcc := has_any bo (o : Int) V5 HBL.out
        rw [← hbb] at hcc
        have CH := Lib.hid hcc
        clear hcc hbb
        have t0 := YP5.out.c0
        have t1 := YP5.out.c1
        have t2 := YP5.out.c2
        have t3 := YP5.out.c3
        have t4 := YP5.out.c4
        go_wp2_with (rw [← HVR.out])
        clear HVR
        refine CH.out.mono ?_
        rintro e V6 ⟨rfl, hb⟩
        have YP6 := Lib.hid (YP5.out.step hb)
        have MP6 := Lib.hid (MP5.out.below hb)
        have YX6 := Lib.hid (YX5.out.step hb)
        have MX6 := Lib.hid (MX5.out.below hb)
        have BW6 := Lib.hid (held_trans BW5.out hb)
        clear BW5 YP5 MP5 YX5 MX5 
        clear hb CH t0 t1 t2 t3 t4
        have FO := Lib.hid (fun W (hb : Below V6.heap.size V6 W) => far_any A1 nt1 ct1 r.tree (k : Int) (o : Int) W (Lib.hid MX6.out.tlen) MX6.out.tmax (Lib.hid MX6.out.fit) (MX6.out.below hb).tree)
        have FJ := Lib.hid (fun W (hb : Below V6.heap.size V6 W) => far_any A1 nt1 ct1 r.tree (k : Int) (j : Int) W (Lib.hid MX6.out.tlen) MX6.out.tmax (Lib.hid MX6.out.fit) (MX6.out.below hb).tree)
        cases bb
        rotate_left
        · skip
          have f0 : ¬ Dp.far r.tree (k : Int) (o : Int) < Dp.far r.tree (k : Int) (j : Int) := by have := (HWN.out.nearest HMAY.out HK.out (o := o) HB.out.symm).1; omega
          have f1 : decide (Dp.far r.tree (k : Int) (o : Int) < Dp.far r.tree (k : Int) (j : Int)) = false := decide_eq_false f0
          by_cases hoj : o = j
          · skip
            have g1 : ((o : Int) == (j : Int)) = true := by rw [beq_iff_eq]; omega
            clear hoj
            go_wp2_with fail
            refine wp_region_held_drew (S := fun w' => B5 w' w.heap.size (.slice A0 nt ct) (.int .i64 r.size) (.slice R nr cr) (.slice S ns cs) (.int .u64 (r.on : Nat)) ∧ B5 w' w3.heap.size (.slice A1 nt1 ct1) (.int .i64 r.size) (.slice R1 nr1 cr1) (.slice S1 ns1 cs1) (.int .u64 (r.on : Nat))) (by kernel_rfl) ⟨YP6.out.drew, YX6.out.drew⟩ (fun hHeld => ?_)
            refine wpAnyH_takesJ (i := 0) (v := (.int .i64 (o : Nat))) (some 74) rfl rfl (by kernel_rfl) (by kernel_rfl) (by kernel_rfl) (fun _ _ _ h => h) (Or.inl ⟨by rfl, (by intro W9 hSw; clear hSw; go_simp; first | done | with_reducible rfl)⟩) (by assumption) ?_
            simp only [Act.put, List.setIfInBounds_toArray]; try simp only [List.set_cons_zero, List.set_cons_succ]
            refine wpAnyH_takesJ (i := 1) (v := (.int .i64 (j : Nat))) (some 75) rfl rfl (by kernel_rfl) (by kernel_rfl) (by kernel_rfl) (fun _ _ _ h => h) (Or.inl ⟨by rfl, (by intro W9 hSw; clear hSw; go_simp; first | done | with_reducible rfl)⟩) (by assumption) ?_
            simp only [Act.put, List.setIfInBounds_toArray]; try simp only [List.set_cons_zero, List.set_cons_succ]
            refine wpAnyH_takesJ (i := 2) (v := (.bool true)) (some 76) rfl rfl (by kernel_rfl) (by kernel_rfl) (by kernel_rfl) (fun _ _ _ h => h) (Or.inl ⟨by rfl, (by intro W9 hSw; clear hSw; go_simp; first | done | with_reducible rfl)⟩) (by assumption) ?_
            simp only [Act.put, List.setIfInBounds_toArray]; try simp only [List.set_cons_zero, List.set_cons_succ]
            refine wpAnyH_takesJ (i := 3) (v := (.bool true)) (some 77) rfl rfl (by kernel_rfl) (by kernel_rfl) (by kernel_rfl) (fun _ _ _ h => h) (Or.inl ⟨by rfl, (by intro W9 hSw; clear hSw; go_simp; first | done | with_reducible rfl)⟩) (by assumption) ?_
            simp only [Act.put, List.setIfInBounds_toArray]; try simp only [List.set_cons_zero, List.set_cons_succ]
            refine wpAnyH_takesJ (i := 4) (v := (.bool true)) (some 78) rfl rfl (by kernel_rfl) (by kernel_rfl) (by kernel_rfl) (fun _ _ _ h => h) (Or.inl ⟨by rfl, (by intro W9 hSw; clear hSw; go_simp; first | done | with_reducible rfl)⟩) (by assumption) ?_
            simp only [Act.put, List.setIfInBounds_toArray]; try simp only [List.set_cons_zero, List.set_cons_succ]
            refine wpAnyH_takesJ (i := 5) (v := (.bool false)) (some 79) rfl rfl (by kernel_rfl) (by kernel_rfl) (by kernel_rfl) (fun _ _ _ h => h) (Or.inl ⟨by rfl, (by intro W9 hSw; clear hSw; go_simp; first | done | with_reducible rfl)⟩) (by assumption) ?_
            simp only [Act.put, List.setIfInBounds_toArray]; try simp only [List.set_cons_zero, List.set_cons_succ]
            refine wpAnyH_takesJ (i := 6) (v := (.bool false)) (some 80) rfl rfl (by kernel_rfl) (by kernel_rfl) (by kernel_rfl) (fun _ _ _ h => h) (Or.inl ⟨by rfl, (by intro W9 hSw; clear hSw; go_simp; first | done | with_reducible rfl)⟩) (by assumption) ?_
            simp only [Act.put, List.setIfInBounds_toArray]; try simp only [List.set_cons_zero, List.set_cons_succ]
            refine wpAnyH_takesJ (i := 7) (v := (.bool false)) (some 81) rfl rfl (by kernel_rfl) (by kernel_rfl) (by kernel_rfl) (fun _ _ _ h => h) (Or.inl ⟨by rfl, (by intro W9 hSw; clear hSw; go_simp; first | done | with_reducible rfl)⟩) (by assumption) ?_
            simp only [Act.put, List.setIfInBounds_toArray]; try simp only [List.set_cons_zero, List.set_cons_succ]
            refine wpAnyH_takesJ (i := 8) (v := (.bool true)) (some 82) rfl rfl (by kernel_rfl) (by kernel_rfl) (by kernel_rfl) (fun _ _ _ h => h) (Or.inl ⟨by rfl, (by intro W9 hSw; clear hSw; go_simp; first | done | with_reducible rfl)⟩) (by assumption) ?_
            simp only [Act.put, List.setIfInBounds_toArray]; try simp only [List.set_cons_zero, List.set_cons_succ]
            refine wpAnyH_takesJ (i := 9) (v := (.bool true)) (some 83) rfl rfl (by kernel_rfl) (by kernel_rfl) (by kernel_rfl) (fun _ _ _ h => h) (Or.inl ⟨by rfl, (by intro W9 hSw; clear hSw; go_simp; first | done | with_reducible rfl)⟩) (by assumption) ?_
            simp only [Act.put, List.setIfInBounds_toArray]; try simp only [List.set_cons_zero, List.set_cons_succ]
            refine wpAnyH_takesJ (i := 10) (v := (.pointer (some ⟨w3.heap.size, 0, none⟩))) (some 84) rfl rfl (by kernel_rfl) (by kernel_rfl) (by kernel_rfl) (fun _ _ _ h => h) (Or.inl ⟨by rfl, (by intro W9 hSw; clear hSw; go_simp; first | done | with_reducible rfl)⟩) (by assumption) ?_
            simp only [Act.put, List.setIfInBounds_toArray]; try simp only [List.set_cons_zero, List.set_cons_succ]
            refine wpAnyH_takesJ (i := 11) (v := (.slice A1 nt1 ct1)) (some 85) rfl rfl (by kernel_rfl) (by kernel_rfl) (by kernel_rfl) (fun _ _ _ h => h) (Or.inl ⟨by rfl, (by intro W9 hSw; have s0 := (hSw.2).c0; have s1 := (hSw.2).c1; have s2 := (hSw.2).c2; have s3 := (hSw.2).c3; have s4 := (hSw.2).c4; clear hSw; go_simp; first | done | with_reducible rfl)⟩) (by assumption) ?_
            simp only [Act.put, List.setIfInBounds_toArray]; try simp only [List.set_cons_zero, List.set_cons_succ]
            refine wpAnyH_takesJ (i := 12) (v := (.int .i64 (k : Nat))) (some 86) rfl rfl (by kernel_rfl) (by kernel_rfl) (by kernel_rfl) (fun _ _ _ h => h) (Or.inl ⟨by rfl, (by intro W9 hSw; clear hSw; go_simp; first | done | with_reducible rfl)⟩) (by assumption) ?_
            simp only [Act.put, List.setIfInBounds_toArray]; try simp only [List.set_cons_zero, List.set_cons_succ]
            refine wpAnyH_takesJ (i := 13) (v := (.int .i64 (o : Nat))) (some 87) rfl rfl (by kernel_rfl) (by kernel_rfl) (by kernel_rfl) (fun _ _ _ h => h) (Or.inl ⟨by rfl, (by intro W9 hSw; clear hSw; go_simp; first | done | with_reducible rfl)⟩) (by assumption) ?_
            simp only [Act.put, List.setIfInBounds_toArray]; try simp only [List.set_cons_zero, List.set_cons_succ]
            refine wpAnyH_takesJ (i := 15) (v := (.pointer (some ⟨w3.heap.size, 0, none⟩))) (some 89) rfl rfl (by kernel_rfl) (by kernel_rfl) (by kernel_rfl) (fun _ _ _ h => h) (Or.inl ⟨by rfl, (by intro W9 hSw; clear hSw; go_simp; first | done | with_reducible rfl)⟩) (by assumption) ?_
            simp only [Act.put, List.setIfInBounds_toArray]; try simp only [List.set_cons_zero, List.set_cons_succ]
            refine wpAnyH_takesJ (i := 16) (v := (.slice A1 nt1 ct1)) (some 90) rfl rfl (by kernel_rfl) (by kernel_rfl) (by kernel_rfl) (fun _ _ _ h => h) (Or.inl ⟨by rfl, (by intro W9 hSw; have s0 := (hSw.2).c0; have s1 := (hSw.2).c1; have s2 := (hSw.2).c2; have s3 := (hSw.2).c3; have s4 := (hSw.2).c4; clear hSw; go_simp; first | done | with_reducible rfl)⟩) (by assumption) ?_
            simp only [Act.put, List.setIfInBounds_toArray]; try simp only [List.set_cons_zero, List.set_cons_succ]
            refine wpAnyH_takesJ (i := 17) (v := (.int .i64 (k : Nat))) (some 91) rfl rfl (by kernel_rfl) (by kernel_rfl) (by kernel_rfl) (fun _ _ _ h => h) (Or.inl ⟨by rfl, (by intro W9 hSw; clear hSw; go_simp; first | done | with_reducible rfl)⟩) (by assumption) ?_
            simp only [Act.put, List.setIfInBounds_toArray]; try simp only [List.set_cons_zero, List.set_cons_succ]
            refine wpAnyH_takesJ (i := 18) (v := (.int .i64 (j : Nat))) (some 92) rfl rfl (by kernel_rfl) (by kernel_rfl) (by kernel_rfl) (fun _ _ _ h => h) (Or.inl ⟨by rfl, (by intro W9 hSw; clear hSw; go_simp; first | done | with_reducible rfl)⟩) (by assumption) ?_
            simp only [Act.put, List.setIfInBounds_toArray]; try simp only [List.set_cons_zero, List.set_cons_succ]
            refine wpAnyH_ready (rs := [14]) (by kernel_rfl) (by simp) ?_
            refine AllReadyH.cons rfl (fun K hK => ?_) AllReadyH.nil
            go_simp
            go_at_call 11
            refine (FO.out _ (by exact (Below.refl _ _).drew)).mono ?_
            rintro e x1 ⟨rfl, hbx⟩
            have hb1 := (Below.refl V6.heap.size V6).drew.trans (hbx.mono (by simp))
            refine hK.out _ _ (by exact ⟨YP6.out.step hb1, YX6.out.step hb1⟩) (fun hHeld => ?_)
            clear hK K hbx
            try dsimp only
            refine wpAnyH_ready (rs := [19]) (by kernel_rfl) (by simp) ?_
            refine AllReadyH.cons rfl (fun K hK => ?_) AllReadyH.nil
            go_simp
            go_at_call 11
            refine (FJ.out _ (by exact hb1)).mono ?_
            rintro e x2 ⟨rfl, hbx⟩
            have hb2 := hb1.trans (hbx.mono hb1.size)
            refine hK.out _ _ (by exact ⟨YP6.out.step hb2, YX6.out.step hb2⟩) (fun hHeld => ?_)
            clear hK K hbx
            try dsimp only
            refine wpAnyH_takesJ (i := 20) (v := (.bool false)) (some 94) rfl rfl (by kernel_rfl) (by kernel_rfl) (by kernel_rfl) (fun _ _ _ h => h) (Or.inl ⟨by rfl, (by intro W9 hSw; clear hSw; go_simp; first | done | with_reducible rfl)⟩) (by assumption) ?_
            simp only [Act.put, List.setIfInBounds_toArray]; try simp only [List.set_cons_zero, List.set_cons_succ]
            refine wpAnyH_takesJ (i := 21) (v := (.bool false)) (some 95) rfl rfl (by kernel_rfl) (by kernel_rfl) (by kernel_rfl) (fun _ _ _ h => h) (Or.inl ⟨by rfl, (by intro W9 hSw; clear hSw; go_simp; first | done | with_reducible rfl)⟩) (by assumption) ?_
            simp only [Act.put, List.setIfInBounds_toArray]; try simp only [List.set_cons_zero, List.set_cons_succ]
            refine wpAnyH_takesJ (i := 22) (v := (.bool false)) (some 96) rfl rfl (by kernel_rfl) (by kernel_rfl) (by kernel_rfl) (fun _ _ _ h => h) (Or.inl ⟨by rfl, (by intro W9 hSw; clear hSw; go_simp; first | done | with_reducible rfl)⟩) (by assumption) ?_
            simp only [Act.put, List.setIfInBounds_toArray]; try simp only [List.set_cons_zero, List.set_cons_succ]
            refine wpAnyH_done (by kernel_rfl) ?_ _
            have GE := Lib.hid (⟨YP6.out.step hb2, YX6.out.step hb2, MX6.out.below hb2, held_trans BW6.out hb2⟩ : AM w w3.heap.size r ⟨A0, nt, ct, R, nr, cr, S, ns, cs⟩ ⟨A1, nt1, ct1, R1, nr1, cr1, S1, ns1, cs1⟩ x2)
            clear hb1 hb2
            go_wp2_with fail
            go_roundw
            case rel => exact ⟨o + 1, by omega, by first | exact wo | rw [wo] | go_num, GE⟩
            case measure => simp [intOf]; omega
          · skip
            have g1 : ((o : Int) == (j : Int)) = false := by rw [beq_eq_false_iff_ne]; omega
            clear hoj
            go_wp2_with fail
            refine wp_region_held_drew (S := fun w' => B5 w' w.heap.size (.slice A0 nt ct) (.int .i64 r.size) (.slice R nr cr) (.slice S ns cs) (.int .u64 (r.on : Nat)) ∧ B5 w' w3.heap.size (.slice A1 nt1 ct1) (.int .i64 r.size) (.slice R1 nr1 cr1) (.slice S1 ns1 cs1) (.int .u64 (r.on : Nat))) (by kernel_rfl) ⟨YP6.out.drew, YX6.out.drew⟩ (fun hHeld => ?_)
            refine wpAnyH_takesJ (i := 0) (v := (.int .i64 (o : Nat))) (some 74) rfl rfl (by kernel_rfl) (by kernel_rfl) (by kernel_rfl) (fun _ _ _ h => h) (Or.inl ⟨by rfl, (by intro W9 hSw; clear hSw; go_simp; first | done | with_reducible rfl)⟩) (by assumption) ?_
            simp only [Act.put, List.setIfInBounds_toArray]; try simp only [List.set_cons_zero, List.set_cons_succ]
            refine wpAnyH_takesJ (i := 1) (v := (.int .i64 (j : Nat))) (some 75) rfl rfl (by kernel_rfl) (by kernel_rfl) (by kernel_rfl) (fun _ _ _ h => h) (Or.inl ⟨by rfl, (by intro W9 hSw; clear hSw; go_simp; first | done | with_reducible rfl)⟩) (by assumption) ?_
            simp only [Act.put, List.setIfInBounds_toArray]; try simp only [List.set_cons_zero, List.set_cons_succ]
            refine wpAnyH_takesJ (i := 2) (v := (.bool false)) (some 76) rfl rfl (by kernel_rfl) (by kernel_rfl) (by kernel_rfl) (fun _ _ _ h => h) (Or.inl ⟨by rfl, (by intro W9 hSw; clear hSw; go_simp; first | done | with_reducible rfl)⟩) (by assumption) ?_
            simp only [Act.put, List.setIfInBounds_toArray]; try simp only [List.set_cons_zero, List.set_cons_succ]
            refine wpAnyH_takesJ (i := 3) (v := (.bool false)) (some 77) rfl rfl (by kernel_rfl) (by kernel_rfl) (by kernel_rfl) (fun _ _ _ h => h) (Or.inl ⟨by rfl, (by intro W9 hSw; clear hSw; go_simp; first | done | with_reducible rfl)⟩) (by assumption) ?_
            simp only [Act.put, List.setIfInBounds_toArray]; try simp only [List.set_cons_zero, List.set_cons_succ]
            refine wpAnyH_takesJ (i := 4) (v := undef) (some 78) rfl rfl (by kernel_rfl) (by kernel_rfl) (by kernel_rfl) (fun _ _ _ h => h) (Or.inr ⟨by rfl, rfl⟩) (by assumption) ?_
            simp only [Act.put, List.setIfInBounds_toArray]; try simp only [List.set_cons_zero, List.set_cons_succ]
            refine wpAnyH_takesJ (i := 5) (v := undef) (some 79) rfl rfl (by kernel_rfl) (by kernel_rfl) (by kernel_rfl) (fun _ _ _ h => h) (Or.inr ⟨by rfl, rfl⟩) (by assumption) ?_
            simp only [Act.put, List.setIfInBounds_toArray]; try simp only [List.set_cons_zero, List.set_cons_succ]
            refine wpAnyH_takesJ (i := 6) (v := (.bool false)) (some 80) rfl rfl (by kernel_rfl) (by kernel_rfl) (by kernel_rfl) (fun _ _ _ h => h) (Or.inl ⟨by rfl, (by intro W9 hSw; clear hSw; go_simp; first | done | with_reducible rfl)⟩) (by assumption) ?_
            simp only [Act.put, List.setIfInBounds_toArray]; try simp only [List.set_cons_zero, List.set_cons_succ]
            refine wpAnyH_takesJ (i := 7) (v := (.bool false)) (some 81) rfl rfl (by kernel_rfl) (by kernel_rfl) (by kernel_rfl) (fun _ _ _ h => h) (Or.inl ⟨by rfl, (by intro W9 hSw; clear hSw; go_simp; first | done | with_reducible rfl)⟩) (by assumption) ?_
            simp only [Act.put, List.setIfInBounds_toArray]; try simp only [List.set_cons_zero, List.set_cons_succ]
            refine wpAnyH_takesJ (i := 8) (v := (.bool true)) (some 82) rfl rfl (by kernel_rfl) (by kernel_rfl) (by kernel_rfl) (fun _ _ _ h => h) (Or.inl ⟨by rfl, (by intro W9 hSw; clear hSw; go_simp; first | done | with_reducible rfl)⟩) (by assumption) ?_
            simp only [Act.put, List.setIfInBounds_toArray]; try simp only [List.set_cons_zero, List.set_cons_succ]
            refine wpAnyH_takesJ (i := 9) (v := (.bool true)) (some 83) rfl rfl (by kernel_rfl) (by kernel_rfl) (by kernel_rfl) (fun _ _ _ h => h) (Or.inl ⟨by rfl, (by intro W9 hSw; clear hSw; go_simp; first | done | with_reducible rfl)⟩) (by assumption) ?_
            simp only [Act.put, List.setIfInBounds_toArray]; try simp only [List.set_cons_zero, List.set_cons_succ]
            refine wpAnyH_takesJ (i := 10) (v := (.pointer (some ⟨w3.heap.size, 0, none⟩))) (some 84) rfl rfl (by kernel_rfl) (by kernel_rfl) (by kernel_rfl) (fun _ _ _ h => h) (Or.inl ⟨by rfl, (by intro W9 hSw; clear hSw; go_simp; first | done | with_reducible rfl)⟩) (by assumption) ?_
            simp only [Act.put, List.setIfInBounds_toArray]; try simp only [List.set_cons_zero, List.set_cons_succ]
            refine wpAnyH_takesJ (i := 11) (v := (.slice A1 nt1 ct1)) (some 85) rfl rfl (by kernel_rfl) (by kernel_rfl) (by kernel_rfl) (fun _ _ _ h => h) (Or.inl ⟨by rfl, (by intro W9 hSw; have s0 := (hSw.2).c0; have s1 := (hSw.2).c1; have s2 := (hSw.2).c2; have s3 := (hSw.2).c3; have s4 := (hSw.2).c4; clear hSw; go_simp; first | done | with_reducible rfl)⟩) (by assumption) ?_
            simp only [Act.put, List.setIfInBounds_toArray]; try simp only [List.set_cons_zero, List.set_cons_succ]
            refine wpAnyH_takesJ (i := 12) (v := (.int .i64 (k : Nat))) (some 86) rfl rfl (by kernel_rfl) (by kernel_rfl) (by kernel_rfl) (fun _ _ _ h => h) (Or.inl ⟨by rfl, (by intro W9 hSw; clear hSw; go_simp; first | done | with_reducible rfl)⟩) (by assumption) ?_
            simp only [Act.put, List.setIfInBounds_toArray]; try simp only [List.set_cons_zero, List.set_cons_succ]
            refine wpAnyH_takesJ (i := 13) (v := (.int .i64 (o : Nat))) (some 87) rfl rfl (by kernel_rfl) (by kernel_rfl) (by kernel_rfl) (fun _ _ _ h => h) (Or.inl ⟨by rfl, (by intro W9 hSw; clear hSw; go_simp; first | done | with_reducible rfl)⟩) (by assumption) ?_
            simp only [Act.put, List.setIfInBounds_toArray]; try simp only [List.set_cons_zero, List.set_cons_succ]
            refine wpAnyH_takesJ (i := 15) (v := (.pointer (some ⟨w3.heap.size, 0, none⟩))) (some 89) rfl rfl (by kernel_rfl) (by kernel_rfl) (by kernel_rfl) (fun _ _ _ h => h) (Or.inl ⟨by rfl, (by intro W9 hSw; clear hSw; go_simp; first | done | with_reducible rfl)⟩) (by assumption) ?_
            simp only [Act.put, List.setIfInBounds_toArray]; try simp only [List.set_cons_zero, List.set_cons_succ]
            refine wpAnyH_takesJ (i := 16) (v := (.slice A1 nt1 ct1)) (some 90) rfl rfl (by kernel_rfl) (by kernel_rfl) (by kernel_rfl) (fun _ _ _ h => h) (Or.inl ⟨by rfl, (by intro W9 hSw; have s0 := (hSw.2).c0; have s1 := (hSw.2).c1; have s2 := (hSw.2).c2; have s3 := (hSw.2).c3; have s4 := (hSw.2).c4; clear hSw; go_simp; first | done | with_reducible rfl)⟩) (by assumption) ?_
            simp only [Act.put, List.setIfInBounds_toArray]; try simp only [List.set_cons_zero, List.set_cons_succ]
            refine wpAnyH_takesJ (i := 17) (v := (.int .i64 (k : Nat))) (some 91) rfl rfl (by kernel_rfl) (by kernel_rfl) (by kernel_rfl) (fun _ _ _ h => h) (Or.inl ⟨by rfl, (by intro W9 hSw; clear hSw; go_simp; first | done | with_reducible rfl)⟩) (by assumption) ?_
            simp only [Act.put, List.setIfInBounds_toArray]; try simp only [List.set_cons_zero, List.set_cons_succ]
            refine wpAnyH_takesJ (i := 18) (v := (.int .i64 (j : Nat))) (some 92) rfl rfl (by kernel_rfl) (by kernel_rfl) (by kernel_rfl) (fun _ _ _ h => h) (Or.inl ⟨by rfl, (by intro W9 hSw; clear hSw; go_simp; first | done | with_reducible rfl)⟩) (by assumption) ?_
            simp only [Act.put, List.setIfInBounds_toArray]; try simp only [List.set_cons_zero, List.set_cons_succ]
            refine wpAnyH_ready (rs := [14]) (by kernel_rfl) (by simp) ?_
            refine AllReadyH.cons rfl (fun K hK => ?_) AllReadyH.nil
            go_simp
            go_at_call 11
            refine (FO.out _ (by exact (Below.refl _ _).drew)).mono ?_
            rintro e x1 ⟨rfl, hbx⟩
            have hb1 := (Below.refl V6.heap.size V6).drew.trans (hbx.mono (by simp))
            refine hK.out _ _ (by exact ⟨YP6.out.step hb1, YX6.out.step hb1⟩) (fun hHeld => ?_)
            clear hK K hbx
            try dsimp only
            refine wpAnyH_ready (rs := [19]) (by kernel_rfl) (by simp) ?_
            refine AllReadyH.cons rfl (fun K hK => ?_) AllReadyH.nil
            go_simp
            go_at_call 11
            refine (FJ.out _ (by exact hb1)).mono ?_
            rintro e x2 ⟨rfl, hbx⟩
            have hb2 := hb1.trans (hbx.mono hb1.size)
            refine hK.out _ _ (by exact ⟨YP6.out.step hb2, YX6.out.step hb2⟩) (fun hHeld => ?_)
            clear hK K hbx
            try dsimp only
            refine wpAnyH_takesJ (i := 20) (v := (.bool false)) (some 94) rfl rfl (by kernel_rfl) (by kernel_rfl) (by kernel_rfl) (fun _ _ _ h => h) (Or.inl ⟨by rfl, (by intro W9 hSw; clear hSw; go_simp; first | done | with_reducible rfl)⟩) (by assumption) ?_
            simp only [Act.put, List.setIfInBounds_toArray]; try simp only [List.set_cons_zero, List.set_cons_succ]
            refine wpAnyH_takesJ (i := 21) (v := (.bool false)) (some 95) rfl rfl (by kernel_rfl) (by kernel_rfl) (by kernel_rfl) (fun _ _ _ h => h) (Or.inl ⟨by rfl, (by intro W9 hSw; clear hSw; go_simp; first | done | with_reducible rfl)⟩) (by assumption) ?_
            simp only [Act.put, List.setIfInBounds_toArray]; try simp only [List.set_cons_zero, List.set_cons_succ]
            refine wpAnyH_takesJ (i := 22) (v := (.bool false)) (some 96) rfl rfl (by kernel_rfl) (by kernel_rfl) (by kernel_rfl) (fun _ _ _ h => h) (Or.inl ⟨by rfl, (by intro W9 hSw; clear hSw; go_simp; first | done | with_reducible rfl)⟩) (by assumption) ?_
            simp only [Act.put, List.setIfInBounds_toArray]; try simp only [List.set_cons_zero, List.set_cons_succ]
            refine wpAnyH_done (by kernel_rfl) ?_ _
            have GE := Lib.hid (⟨YP6.out.step hb2, YX6.out.step hb2, MX6.out.below hb2, held_trans BW6.out hb2⟩ : AM w w3.heap.size r ⟨A0, nt, ct, R, nr, cr, S, ns, cs⟩ ⟨A1, nt1, ct1, R1, nr1, cr1, S1, ns1, cs1⟩ x2)
            clear hb1 hb2
            go_wp2_with fail
            go_roundw
            case rel => exact ⟨o + 1, by omega, by first | exact wo | rw [wo] | go_num, GE⟩
            case measure => simp [intOf]; omega
        · skip
          have hoj : o ≠ j := fun e => by subst e; rw [HJ.out] at HB; exact absurd HB.out (by decide)
          have g1 : ((o : Int) == (j : Int)) = false := by rw [beq_eq_false_iff_ne]; omega
          clear hoj
          go_wp2_with fail
          refine wp_region_held_drew (S := fun w' => B5 w' w.heap.size (.slice A0 nt ct) (.int .i64 r.size) (.slice R nr cr) (.slice S ns cs) (.int .u64 (r.on : Nat)) ∧ B5 w' w3.heap.size (.slice A1 nt1 ct1) (.int .i64 r.size) (.slice R1 nr1 cr1) (.slice S1 ns1 cs1) (.int .u64 (r.on : Nat))) (by kernel_rfl) ⟨YP6.out.drew, YX6.out.drew⟩ (fun hHeld => ?_)
          refine wpAnyH_takesJ (i := 0) (v := (.int .i64 (o : Nat))) (some 74) rfl rfl (by kernel_rfl) (by kernel_rfl) (by kernel_rfl) (fun _ _ _ h => h) (Or.inl ⟨by rfl, (by intro W9 hSw; clear hSw; go_simp; first | done | with_reducible rfl)⟩) (by assumption) ?_
          simp only [Act.put, List.setIfInBounds_toArray]; try simp only [List.set_cons_zero, List.set_cons_succ]
          refine wpAnyH_takesJ (i := 1) (v := (.int .i64 (j : Nat))) (some 75) rfl rfl (by kernel_rfl) (by kernel_rfl) (by kernel_rfl) (fun _ _ _ h => h) (Or.inl ⟨by rfl, (by intro W9 hSw; clear hSw; go_simp; first | done | with_reducible rfl)⟩) (by assumption) ?_
          simp only [Act.put, List.setIfInBounds_toArray]; try simp only [List.set_cons_zero, List.set_cons_succ]
          refine wpAnyH_takesJ (i := 2) (v := (.bool false)) (some 76) rfl rfl (by kernel_rfl) (by kernel_rfl) (by kernel_rfl) (fun _ _ _ h => h) (Or.inl ⟨by rfl, (by intro W9 hSw; clear hSw; go_simp; first | done | with_reducible rfl)⟩) (by assumption) ?_
          simp only [Act.put, List.setIfInBounds_toArray]; try simp only [List.set_cons_zero, List.set_cons_succ]
          refine wpAnyH_takesJ (i := 3) (v := (.bool false)) (some 77) rfl rfl (by kernel_rfl) (by kernel_rfl) (by kernel_rfl) (fun _ _ _ h => h) (Or.inl ⟨by rfl, (by intro W9 hSw; clear hSw; go_simp; first | done | with_reducible rfl)⟩) (by assumption) ?_
          simp only [Act.put, List.setIfInBounds_toArray]; try simp only [List.set_cons_zero, List.set_cons_succ]
          refine wpAnyH_takesJ (i := 4) (v := undef) (some 78) rfl rfl (by kernel_rfl) (by kernel_rfl) (by kernel_rfl) (fun _ _ _ h => h) (Or.inr ⟨by rfl, rfl⟩) (by assumption) ?_
          simp only [Act.put, List.setIfInBounds_toArray]; try simp only [List.set_cons_zero, List.set_cons_succ]
          refine wpAnyH_takesJ (i := 5) (v := undef) (some 79) rfl rfl (by kernel_rfl) (by kernel_rfl) (by kernel_rfl) (fun _ _ _ h => h) (Or.inr ⟨by rfl, rfl⟩) (by assumption) ?_
          simp only [Act.put, List.setIfInBounds_toArray]; try simp only [List.set_cons_zero, List.set_cons_succ]
          refine wpAnyH_takesJ (i := 6) (v := (.bool false)) (some 80) rfl rfl (by kernel_rfl) (by kernel_rfl) (by kernel_rfl) (fun _ _ _ h => h) (Or.inl ⟨by rfl, (by intro W9 hSw; clear hSw; go_simp; first | done | with_reducible rfl)⟩) (by assumption) ?_
          simp only [Act.put, List.setIfInBounds_toArray]; try simp only [List.set_cons_zero, List.set_cons_succ]
          refine wpAnyH_takesJ (i := 7) (v := (.bool false)) (some 81) rfl rfl (by kernel_rfl) (by kernel_rfl) (by kernel_rfl) (fun _ _ _ h => h) (Or.inl ⟨by rfl, (by intro W9 hSw; clear hSw; go_simp; first | done | with_reducible rfl)⟩) (by assumption) ?_
          simp only [Act.put, List.setIfInBounds_toArray]; try simp only [List.set_cons_zero, List.set_cons_succ]
          refine wpAnyH_takesJ (i := 8) (v := (.bool false)) (some 82) rfl rfl (by kernel_rfl) (by kernel_rfl) (by kernel_rfl) (fun _ _ _ h => h) (Or.inl ⟨by rfl, (by intro W9 hSw; clear hSw; go_simp; first | done | with_reducible rfl)⟩) (by assumption) ?_
          simp only [Act.put, List.setIfInBounds_toArray]; try simp only [List.set_cons_zero, List.set_cons_succ]
          refine wpAnyH_takesJ (i := 9) (v := (.bool false)) (some 83) rfl rfl (by kernel_rfl) (by kernel_rfl) (by kernel_rfl) (fun _ _ _ h => h) (Or.inl ⟨by rfl, (by intro W9 hSw; clear hSw; go_simp; first | done | with_reducible rfl)⟩) (by assumption) ?_
          simp only [Act.put, List.setIfInBounds_toArray]; try simp only [List.set_cons_zero, List.set_cons_succ]
          refine wpAnyH_takesJ (i := 10) (v := undef) (some 84) rfl rfl (by kernel_rfl) (by kernel_rfl) (by kernel_rfl) (fun _ _ _ h => h) (Or.inr ⟨by rfl, rfl⟩) (by assumption) ?_
          simp only [Act.put, List.setIfInBounds_toArray]; try simp only [List.set_cons_zero, List.set_cons_succ]
          refine wpAnyH_takesJ (i := 11) (v := undef) (some 85) rfl rfl (by kernel_rfl) (by kernel_rfl) (by kernel_rfl) (fun _ _ _ h => h) (Or.inr ⟨by rfl, rfl⟩) (by assumption) ?_
          simp only [Act.put, List.setIfInBounds_toArray]; try simp only [List.set_cons_zero, List.set_cons_succ]
          refine wpAnyH_takesJ (i := 12) (v := undef) (some 86) rfl rfl (by kernel_rfl) (by kernel_rfl) (by kernel_rfl) (fun _ _ _ h => h) (Or.inr ⟨by rfl, rfl⟩) (by assumption) ?_
          simp only [Act.put, List.setIfInBounds_toArray]; try simp only [List.set_cons_zero, List.set_cons_succ]
          refine wpAnyH_takesJ (i := 13) (v := undef) (some 87) rfl rfl (by kernel_rfl) (by kernel_rfl) (by kernel_rfl) (fun _ _ _ h => h) (Or.inr ⟨by rfl, rfl⟩) (by assumption) ?_
          simp only [Act.put, List.setIfInBounds_toArray]; try simp only [List.set_cons_zero, List.set_cons_succ]
          refine wpAnyH_takesJ (i := 14) (v := undef) (some 88) rfl rfl (by kernel_rfl) (by kernel_rfl) (by kernel_rfl) (fun _ _ _ h => h) (Or.inr ⟨by rfl, rfl⟩) (by assumption) ?_
          simp only [Act.put, List.setIfInBounds_toArray]; try simp only [List.set_cons_zero, List.set_cons_succ]
          refine wpAnyH_takesJ (i := 15) (v := undef) (some 89) rfl rfl (by kernel_rfl) (by kernel_rfl) (by kernel_rfl) (fun _ _ _ h => h) (Or.inr ⟨by rfl, rfl⟩) (by assumption) ?_
          simp only [Act.put, List.setIfInBounds_toArray]; try simp only [List.set_cons_zero, List.set_cons_succ]
          refine wpAnyH_takesJ (i := 16) (v := undef) (some 90) rfl rfl (by kernel_rfl) (by kernel_rfl) (by kernel_rfl) (fun _ _ _ h => h) (Or.inr ⟨by rfl, rfl⟩) (by assumption) ?_
          simp only [Act.put, List.setIfInBounds_toArray]; try simp only [List.set_cons_zero, List.set_cons_succ]
          refine wpAnyH_takesJ (i := 17) (v := undef) (some 91) rfl rfl (by kernel_rfl) (by kernel_rfl) (by kernel_rfl) (fun _ _ _ h => h) (Or.inr ⟨by rfl, rfl⟩) (by assumption) ?_
          simp only [Act.put, List.setIfInBounds_toArray]; try simp only [List.set_cons_zero, List.set_cons_succ]
          refine wpAnyH_takesJ (i := 18) (v := undef) (some 92) rfl rfl (by kernel_rfl) (by kernel_rfl) (by kernel_rfl) (fun _ _ _ h => h) (Or.inr ⟨by rfl, rfl⟩) (by assumption) ?_
          simp only [Act.put, List.setIfInBounds_toArray]; try simp only [List.set_cons_zero, List.set_cons_succ]
          refine wpAnyH_takesJ (i := 19) (v := undef) (some 93) rfl rfl (by kernel_rfl) (by kernel_rfl) (by kernel_rfl) (fun _ _ _ h => h) (Or.inr ⟨by rfl, rfl⟩) (by assumption) ?_
          simp only [Act.put, List.setIfInBounds_toArray]; try simp only [List.set_cons_zero, List.set_cons_succ]
          refine wpAnyH_takesJ (i := 20) (v := undef) (some 94) rfl rfl (by kernel_rfl) (by kernel_rfl) (by kernel_rfl) (fun _ _ _ h => h) (Or.inr ⟨by rfl, rfl⟩) (by assumption) ?_
          simp only [Act.put, List.setIfInBounds_toArray]; try simp only [List.set_cons_zero, List.set_cons_succ]
          refine wpAnyH_takesJ (i := 21) (v := (.bool false)) (some 95) rfl rfl (by kernel_rfl) (by kernel_rfl) (by kernel_rfl) (fun _ _ _ h => h) (Or.inl ⟨by rfl, (by intro W9 hSw; clear hSw; go_simp; first | done | with_reducible rfl)⟩) (by assumption) ?_
          simp only [Act.put, List.setIfInBounds_toArray]; try simp only [List.set_cons_zero, List.set_cons_succ]
          refine wpAnyH_takesJ (i := 22) (v := (.bool false)) (some 96) rfl rfl (by kernel_rfl) (by kernel_rfl) (by kernel_rfl) (fun _ _ _ h => h) (Or.inl ⟨by rfl, (by intro W9 hSw; clear hSw; go_simp; first | done | with_reducible rfl)⟩) (by assumption) ?_
          simp only [Act.put, List.setIfInBounds_toArray]; try simp only [List.set_cons_zero, List.set_cons_succ]
          refine wpAnyH_done (by kernel_rfl) ?_ _
          have hdr := (Below.refl V6.heap.size V6).drew
          have GE := Lib.hid (⟨YP6.out.step hdr, YX6.out.step hdr, MX6.out.below hdr, held_trans BW6.out hdr⟩ : AM w w3.heap.size r ⟨A0, nt, ct, R, nr, cr, S, ns, cs⟩ ⟨A1, nt1, ct1, R1, nr1, cr1, S1, ns1, cs1⟩ V6.drew)
          clear hdr
          go_wp2_with fail
          go_roundw
          case rel => exact ⟨o + 1, by omega, by first | exact wo | rw [wo] | go_num, GE⟩
          case measure => simp [intOf]; omega
      · skip
        have l1 : ¬ (o : Int) < (nr : Int) := by omega
        have l2 : ¬ o < nr := hlt
        have t0 := YP5.out.c0
        have t1 := YP5.out.c1
        have t2 := YP5.out.c2
        have t3 := YP5.out.c3
        have t4 := YP5.out.c4
        go_wp2_with (rw [← HVR.out])
        go_ret
        exact ⟨rfl, BW5.out⟩
set_option maxRecDepth 100000 in
theorem lifted (os : Os) (started : os.Started) (H : Type) (enc : TypeId × Value → H) :
    ReturnsInHanded {} Tryd.checked os 3 .any (fun w args => (Rows.placeWakesSpec.pre enc Tryd.prog Tryd.f3 [] false w args ∧ laidMetH Tryd.prog laidList w) ∧ sizedMet enc Tryd.prog Tryd.f3 (OpenSpec.ofChange Rows.placeWakesSpec) false w args)
      (Rows.placeWakesSpec.post enc Tryd.prog Tryd.f3 false true false false) := by
  refine returnsInHanded_of_change_and (C := Tryd.checked) (X := fun w _ => laidMetH Tryd.prog laidList w) (fun _ _ _ hh h => h.of_heap hh) own started (by kernel_rfl) Tryd.func3
    (ChangeSpec.witness_shaped (enc := enc) (C := Tryd.checked) (os := os) (X := fun w _ => laidMetH Tryd.prog laidList w) false (World.doorLaid Tryd.prog 14 os) #[.agg #[.slice none 0 0, .int .i64 0, .slice none 0 0, .slice none 0 0, .int .u64 0], .int .u64 0, .int .i64 0] 8 rfl (World.shaped_of_RefB (by kernel_rfl) (by kernel_rfl)) (by kernel_rfl) (by kernel_rfl) (by kernel_rfl) (door_met os _)) ?_
  intro W base args ds gs before hval0 hW _ _ hL _
  have hval : ∀ (j : Nat) t v, Tryd.f3.params[j]? = some t → args[j]? = some v → Value.okWide Tryd.prog W .any base t v := hval0
  have hW' := hW
  obtain ⟨p, q, hA0, hV, rfl, hfz, hnd⟩ := hW
  have hA : DataW.TrodAll enc Tryd.prog W 0 (fun _ => true) true Tryd.f3.params.toList args.toList ds p := hA0
  rw [Tryd.params3] at hA hval
  obtain ⟨v0, vs0, d0, ds0, p0, q0, hargs, rfl, rfl, h0, r0⟩ := trodAll_cons hA
  obtain ⟨v1, vs1, d1, ds1, p1, q1, rfl, rfl, rfl, h1, r1⟩ := trodAll_cons r0
  obtain ⟨v2, vs2, d2, ds2, p2, q2, rfl, rfl, rfl, h2, r2⟩ := trodAll_cons r1
  obtain ⟨rfl, rfl, rfl⟩ := trodAll_nil r2
  obtain rfl : args = #[v0, v1, v2] := by cases args; simp_all
  obtain ⟨rfl, rfl⟩ := trodVars_none hV
  have k0 := h0
  have lt0 : ∀ x ∈ p0, x.block < W.heap.size := by obtain ⟨m, hm⟩ := k0; exact DataW.trod_lt m _ _ _ hm
  obtain ⟨x0, y0, rfl, hr0⟩ := open_runs (hval 0 27 v0 rfl rfl) h0
  obtain ⟨a1, rfl, rfl, rfl, w1⟩ := open_int Tryd.underlying25 (hval 1 25 v1 rfl rfl) h1
  obtain ⟨x1, rfl, b1⟩ := of_wf64 w1
  obtain ⟨a2, rfl, rfl, rfl, w2⟩ := open_int Tryd.underlying3 (hval 2 3 v2 rfl rfl) h2
  clear hA0 hval0
  refine (walk x0 y0 x1 a2 W hr0 b1 (in64_of_wf w2) (tab_of_laid hL)).mono fun e W' ⟨he, bel⟩ => ?_
  subst he
  exact ⟨_, rfl, _, _, _, [], _, [], hW', trodAll_mk1 (shut_bool Tryd.underlying4 _), (trodAll_cons_mk (Below.trod laidOut (by kernel_rfl) (of_decide_eq_true (by kernel_rfl)) k0 bel lt0) (trodAll_cons_mk (shut_int Tryd.underlying25 w1) (trodAll_cons_mk (shut_int Tryd.underlying3 w2) trodAll_mk0))), rfl, bel.frame _, fun h => by cases h⟩
theorem over : Rows.PlaceWakesSaid :=
  OpenClaim.holds_of_wide 3 Tryd.f3 rfl rfl rfl rfl rfl rfl rfl ⟨rfl, rfl, rfl, rfl, rfl⟩ rfl rfl rfl rfl rfl (by kernel_rfl) Tryd.func3 (by kernel_rfl)
    (of_decide_eq_true (by kernel_rfl)) (by unfold Func.isWrapper; first | (rw [if_pos (by decide +kernel)]; kernel_rfl) | (rw [if_neg (by decide +kernel)]; exact ⟨rfl, rfl⟩))
    (fun os started H enc _ => lifted os started H enc)
theorem proved : Rows.PlaceWakesCardSaid :=
  Claim7.holds_tied_plain_at .later [] [.data] true Rows.placeWakesCard.stood.harness false
    over (fun _ h => by cases h) (by kernel_rfl) (fun _ h => by cases h) placeWakes_row_tie rfl ⟨rfl, rfl⟩ (by kernel_rfl) rfl
    (fun f fn hf hfn => by
      obtain rfl : f = 3 := Option.some.inj ((show Tryd.prog.funcNamed "catafalque/catafalquelaw18.PlaceWakes" = some 3 by kernel_rfl).symm.trans hf) |>.symm
      obtain rfl : fn = Tryd.f3 := (Option.some.inj (Tryd.func3.symm.trans hfn)).symm
      exact ⟨by kernel_rfl, fun j t ht => by
        rw [Tryd.params3] at ht
        have hm : t ∈ [27, 25, 3] := by simpa using Array.mem_of_getElem? ht
        have hall : ([27, 25, 3].all fun u => !Tryd.prog.wantsStandIn u) = true := by kernel_rfl
        exact (show Tryd.prog.wantsStandIn t = false by simpa using List.all_eq_true.1 hall t hm)⟩)
    (by kernel_rfl)
end Go.Proofs.YtmmgackmiemkhaaDoor.placeWakes

