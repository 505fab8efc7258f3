/- BalanceTells: what any Runs are, balanced, how many were moved, and which rows are the longest and the shortest, are the document's; handed in they stay as they were: the call answers true and changes nothing that was there; for every input. (Written by wip/gen/gen_elaws.py: change that.) -/
import Derived.Test.YthbeldmgaioemaaDoorEShown
import Derived.Test.YthbeldmgaioemaaDoorM7
import Derived.Test.YthbeldmgaioemaaDoorERefBal
import Derived.Test.YthbeldmgaioemaaDoorM10
import Derived.Test.YthbeldmgaioemaaDoorJMade
import Derived.Test.YthbeldmgaioemaaDoorJFew
import Derived.Test.YthbeldmgaioemaaDoorM9
namespace Go.Proofs.YthbeldmgaioemaaDoor.balanceTells
open Go.ChangeShapes Go.WideShapes Go.ChangeAt Go.RowKit
set_option linter.unusedVariables false

set_option maxRecDepth 100000 in
set_option maxHeartbeats 4000000 in
theorem walk (d : Ad) (r : Jp.Rn) (w : World) (h : RMI (fun b => b < w.heap.size) w d r) (hT : Tab w) :
    Calls Tryd.prog 3 #[jv d r] w fun e w' => e = .returned (.bool true) ∧ Below w.heap.size w w' := by
  have HIN := Lib.hid h.2
  have HR := Lib.hid h.1
  have HTW := Lib.hid hT
  obtain ⟨A0, nt, ct, R, nr, cr, S, ns, cs⟩ := d
  obtain ⟨V, hV, hX, hB⟩ := B5.start w (.slice A0 nt ct) (.int .i64 r.size) (.slice R nr cr) (.slice S ns cs) (.int .u64 (r.on : Nat)) 27
  have E := Lib.hid hV
  have X0 := Lib.hid hX
  have B0 := Lib.hid hB
  have SH := Lib.hid (eshown_any V (hT.step hB))
  clear h hT hV hX hB
  unfold jv
  go_enter Tryd.func3, Tryd.ntmps3
  go_wp2_with (rw [← E.out])
  clear E
  refine SH.out.mono ?_
  rintro e w1 ⟨rfl, hb1⟩
  have X1 := Lib.hid (X0.out.step hb1)
  have B1 := Lib.hid (held_trans B0.out hb1)
  have p0 := X1.out.c0
  have p1 := X1.out.c1
  have p2 := X1.out.c2
  have p3 := X1.out.c3
  have p4 := X1.out.c4
  have hFW := fun T HT => few_any ⟨A0, nt, ct, R, nr, cr, S, ns, cs⟩ r T w1 HT (HR.out.below B1.out) HIN.out
  unfold jv at hFW
  simp only at hFW
  have FW := Lib.hid hFW
  clear hb1 SH X0 B0 hFW
  go_wp2_with fail
  by_cases hfew : ¬ FewP r
  · refine (FW.out false (Lib.hid (by simp [hfew]))).mono ?_
    rintro e w2 ⟨rfl, hb2⟩
    have BE := Lib.hid (held_trans B1.out hb2)
    go_wp2_with fail
    go_ret
    exact ⟨rfl, BE.out⟩
  have hfew := Classical.not_not.1 hfew
  have HFEW := Lib.hid hfew
  refine (FW.out true (Lib.hid (by simp [hfew]))).mono ?_
  rintro e w2 ⟨rfl, hb2⟩
  have X2 := Lib.hid (X1.out.step hb2)
  have B2 := Lib.hid (held_trans B1.out hb2)
  have p0 := X2.out.c0
  have p1 := X2.out.c1
  have p2 := X2.out.c2
  have p3 := X2.out.c3
  have p4 := X2.out.c4
  clear hb2 FW X1 B1 hfew
  have hMD := jmade_any ⟨A0, nt, ct, R, nr, cr, S, ns, cs⟩ r w2 (HR.out.below B2.out) (fun b hb => Nat.lt_of_lt_of_le hb B2.out.size) HFEW.out.low
  unfold jv at hMD
  simp only at hMD
  have MD := Lib.hid hMD
  clear hMD
  go_wp2_with fail
  refine MD.out.mono ?_
  rintro e w3 ⟨⟨A1, nt1, ct1, R1, nr1, cr1, S1, ns1, cs1⟩, rfl, hm3, hb3⟩
  unfold jv
  simp only
  have hbn := below_new w3 (.cells #[.slice A1 nt1 ct1, .int .i64 r.size, .slice R1 nr1 cr1, .slice S1 ns1 cs1, .int .u64 (r.on : Nat)] 33)
  have hY := B5.new w3 (.slice A1 nt1 ct1) (.int .i64 r.size) (.slice R1 nr1 cr1) (.slice S1 ns1 cs1) (.int .u64 (r.on : Nat)) 33
  obtain ⟨V4, hV4⟩ : ∃ V4, V4 = w3.alloc (.cells #[.slice A1 nt1 ct1, .int .i64 r.size, .slice R1 nr1 cr1, .slice S1 ns1 cs1, .int .u64 (r.on : Nat)] 33) := ⟨_, rfl⟩
  rw [← hV4] at hbn hY
  have E4 := Lib.hid hV4
  have B4 := Lib.hid (held_trans (held_trans B2.out hb3) hbn)
  have P4 := Lib.hid ((X2.out.step hb3).step hbn)
  have Y4 := Lib.hid hY
  have M4 := Lib.hid (show RM (fun b => b < w3.heap.size) V4 ⟨A1, nt1, ct1, R1, nr1, cr1, S1, ns1, cs1⟩ r from (hm3.bound.mono (fun b hb => hb.2)).below hbn)
  have HX4 := Lib.hid (show w3.heap.size < V4.heap.size from hY.lt)
  have HWX := Lib.hid (show w.heap.size ≤ w3.heap.size from (held_trans B2.out hb3).size)
  clear hm3 hb3 hbn hY hV4 MD X2 B2 p0 p1 p2 p3 p4
  obtain ⟨ba, hba⟩ : ∃ ba, ba = Jp.bal r := ⟨_, rfl⟩
  have YP4 := P4
  have YX4 := Y4
  have MX4 := M4
  have MP4 := Lib.hid (HR.out.below B4.out)
  have BW4 := B4
  have HLW := Lib.hid HFEW.out.low
  clear P4 Y4 M4 B4
  have HBA := Lib.hid hba
  have HLA := Lib.hid (show Low ba.1 from by rw [hba]; exact low_bal HLW.out)
  clear hba
  have hcc := balBalance_any ⟨A1, nt1, ct1, R1, nr1, cr1, S1, ns1, cs1⟩ r V4 MX4.out (fun b hb => Nat.lt_trans hb YX4.out.lt) HLW.out (HTW.out.step BW4.out)
  rw [← HBA.out] at hcc
  unfold jv at hcc
  simp only at hcc
  have C5 := Lib.hid hcc
  clear hcc
  have t0 := YX4.out.c0
  have t1 := YX4.out.c1
  have t2 := YX4.out.c2
  have t3 := YX4.out.c3
  have t4 := YX4.out.c4
  go_wp2_with (rw [← E4.out])
  clear E4
  refine C5.out.mono ?_
  rintro e u5 ⟨⟨T5, nt5, ct5, R5, nr5, cr5, S5, ns5, cs5⟩, rfl, hm, hb⟩
  unfold jv
  simp only
  have hbn := below_new u5 (.cells #[.slice T5 nt5 ct5, .int .i64 ba.1.size, .slice R5 nr5 cr5, .slice S5 ns5 cs5, .int .u64 (ba.1.on : Nat)] 33)
  have hY := B5.new u5 (.slice T5 nt5 ct5) (.int .i64 ba.1.size) (.slice R5 nr5 cr5) (.slice S5 ns5 cs5) (.int .u64 (ba.1.on : Nat)) 33
  obtain ⟨V5, hV⟩ : ∃ V5, V5 = u5.alloc (.cells #[.slice T5 nt5 ct5, .int .i64 ba.1.size, .slice R5 nr5 cr5, .slice S5 ns5 cs5, .int .u64 (ba.1.on : Nat)] 33) := ⟨_, rfl⟩
  rw [← hV] at hbn hY
  have E5 := Lib.hid hV
  have hbj := hb.trans (hbn.mono hb.size)
  have YP5 := Lib.hid (YP4.out.step hbj)
  have MP5 := Lib.hid (MP4.out.below hbj)
  have YX5 := Lib.hid (YX4.out.step hbj)
  have MX5 := Lib.hid (MX4.out.below hbj)
  have BW5 := Lib.hid (held_trans BW4.out hbj)
  clear BW4 YP4 MP4 YX4 MX4 
  have Ya5 := Lib.hid hY
  have Ma5 := Lib.hid ((hm.bound.mono (G := fun b => b < u5.heap.size) (fun b hb => hb.2)).below hbn)
  clear hV hY hbn hm hb hbj C5 t0 t1 t2 t3 t4
  have hcc := refBal_any ⟨A0, nt, ct, R, nr, cr, S, ns, cs⟩ r V5 MP5.out (fun b hb => Nat.lt_trans hb YP5.out.lt) HLW.out
  rw [← HBA.out] at hcc
  unfold jv at hcc
  simp only at hcc
  have C6 := Lib.hid hcc
  clear hcc
  have t0 := YP5.out.c0
  have t1 := YP5.out.c1
  have t2 := YP5.out.c2
  have t3 := YP5.out.c3
  have t4 := YP5.out.c4
  go_wp2_with (rw [← E5.out])
  clear E5
  refine C6.out.mono ?_
  rintro e u6 ⟨⟨T6, nt6, ct6, R6, nr6, cr6, S6, ns6, cs6⟩, rfl, hm, hb⟩
  unfold jv
  simp only
  have hbn := below_new u6 (.cells #[.slice T6 nt6 ct6, .int .i64 ba.1.size, .slice R6 nr6 cr6, .slice S6 ns6 cs6, .int .u64 (ba.1.on : Nat)] 27)
  have hY := B5.new u6 (.slice T6 nt6 ct6) (.int .i64 ba.1.size) (.slice R6 nr6 cr6) (.slice S6 ns6 cs6) (.int .u64 (ba.1.on : Nat)) 27
  obtain ⟨V6, hV⟩ : ∃ V6, V6 = u6.alloc (.cells #[.slice T6 nt6 ct6, .int .i64 ba.1.size, .slice R6 nr6 cr6, .slice S6 ns6 cs6, .int .u64 (ba.1.on : Nat)] 27) := ⟨_, rfl⟩
  rw [← hV] at hbn hY
  have E6 := Lib.hid hV
  have hbj := hb.trans (hbn.mono hb.size)
  have YP6 := Lib.hid (YP5.out.step hbj)
  have MP6 := Lib.hid (MP5.out.below hbj)
  have YX6 := Lib.hid (YX5.out.step hbj)
  have MX6 := Lib.hid (MX5.out.below hbj)
  have Ya6 := Lib.hid (Ya5.out.step hbj)
  have Ma6 := Lib.hid (Ma5.out.below hbj)
  have BW6 := Lib.hid (held_trans BW5.out hbj)
  clear BW5 YP5 MP5 YX5 MX5 Ya5 Ma5 
  have Yb6 := Lib.hid hY
  have Mb6 := Lib.hid ((hm.bound.mono (G := fun b => b < u6.heap.size) (fun b hb => hb.2)).below hbn)
  clear hV hY hbn hm hb hbj C6 t0 t1 t2 t3 t4
  obtain ⟨en, hen⟩ : ∃ en, en = Jp.ends r := ⟨_, rfl⟩
  have HEN := Lib.hid hen
  clear hen
  have hcc := balEnds_any ⟨A1, nt1, ct1, R1, nr1, cr1, S1, ns1, cs1⟩ r V6 MX6.out HLW.out
  rw [← HEN.out] at hcc
  unfold jv at hcc
  simp only at hcc
  have C7 := Lib.hid hcc
  clear hcc
  have t0 := YX6.out.c0
  have t1 := YX6.out.c1
  have t2 := YX6.out.c2
  have t3 := YX6.out.c3
  have t4 := YX6.out.c4
  go_wp2_with (rw [← E6.out])
  clear E6
  refine C7.out.mono ?_
  rintro e V7 ⟨rfl, hb⟩
  have YP7 := Lib.hid (YP6.out.step hb)
  have MP7 := Lib.hid (MP6.out.below hb)
  have YX7 := Lib.hid (YX6.out.step hb)
  have MX7 := Lib.hid (MX6.out.below hb)
  have Ya7 := Lib.hid (Ya6.out.step hb)
  have Ma7 := Lib.hid (Ma6.out.below hb)
  have Yb7 := Lib.hid (Yb6.out.step hb)
  have Mb7 := Lib.hid (Mb6.out.below hb)
  have BW7 := Lib.hid (held_trans BW6.out hb)
  clear BW6 YP6 MP6 YX6 MX6 Ya6 Ma6 Yb6 Mb6 
  clear hb C7 t0 t1 t2 t3 t4
  have hcc := refEnds_any ⟨A0, nt, ct, R, nr, cr, S, ns, cs⟩ r V7 MP7.out HLW.out
  rw [← HEN.out] at hcc
  unfold jv at hcc
  simp only at hcc
  have C8 := Lib.hid hcc
  clear hcc
  have t0 := YP7.out.c0
  have t1 := YP7.out.c1
  have t2 := YP7.out.c2
  have t3 := YP7.out.c3
  have t4 := YP7.out.c4
  go_wp2_with fail
  refine C8.out.mono ?_
  rintro e V8 ⟨rfl, hb⟩
  have YP8 := Lib.hid (YP7.out.step hb)
  have MP8 := Lib.hid (MP7.out.below hb)
  have YX8 := Lib.hid (YX7.out.step hb)
  have MX8 := Lib.hid (MX7.out.below hb)
  have Ya8 := Lib.hid (Ya7.out.step hb)
  have Ma8 := Lib.hid (Ma7.out.below hb)
  have Yb8 := Lib.hid (Yb7.out.step hb)
  have Mb8 := Lib.hid (Mb7.out.below hb)
  have BW8 := Lib.hid (held_trans BW7.out hb)
  clear BW7 YP7 MP7 YX7 MX7 Ya7 Ma7 Yb7 Mb7 
  clear hb C8 t0 t1 t2 t3 t4
  have hcc := fun W (hb : Below V8.heap.size V8 W) => jreal_any ⟨T5, nt5, ct5, R5, nr5, cr5, S5, ns5, cs5⟩ ba.1 W (Ma8.out.below hb) (fun b hb' => Nat.lt_of_lt_of_le (Nat.lt_trans hb' Ya8.out.lt) hb.size) HLA.out
  unfold jv at hcc
  simp only at hcc
  have RA := Lib.hid hcc
  clear hcc
  have hcc := fun W (hb : Below V8.heap.size V8 W) => jreal_any ⟨A1, nt1, ct1, R1, nr1, cr1, S1, ns1, cs1⟩ r W (MX8.out.below hb) (fun b hb' => Nat.lt_of_lt_of_le (Nat.lt_trans hb' YX8.out.lt) hb.size) HLW.out
  unfold jv at hcc
  simp only at hcc
  have RX := Lib.hid hcc
  clear hcc
  have t0 := Yb8.out.c0
  have t1 := Yb8.out.c1
  have t2 := Yb8.out.c2
  have t3 := Yb8.out.c3
  have t4 := Yb8.out.c4
  go_wp2_with fail
  clear t0 t1 t2 t3 t4
  refine wp_region_held_drew (S := fun w' => B5 w' w.heap.size (.slice A0 nt ct) (.int .i64 r.size) (.slice R nr cr) (.slice S ns cs) (.int .u64 (r.on : Nat)) ∧ B5 w' w3.heap.size (.slice A1 nt1 ct1) (.int .i64 r.size) (.slice R1 nr1 cr1) (.slice S1 ns1 cs1) (.int .u64 (r.on : Nat)) ∧ B5 w' u5.heap.size (.slice T5 nt5 ct5) (.int .i64 ba.1.size) (.slice R5 nr5 cr5) (.slice S5 ns5 cs5) (.int .u64 (ba.1.on : Nat)) ∧ B5 w' u6.heap.size (.slice T6 nt6 ct6) (.int .i64 ba.1.size) (.slice R6 nr6 cr6) (.slice S6 ns6 cs6) (.int .u64 (ba.1.on : Nat))) (by kernel_rfl) ⟨YP8.out.drew, YX8.out.drew, Ya8.out.drew, Yb8.out.drew⟩ (fun hHeld => ?_)
  refine wpAnyH_takesJ (i := 0) (v := (.bool true)) (some 40) rfl rfl (by kernel_rfl) (by kernel_rfl) (by kernel_rfl) (fun _ _ _ h => h) (Or.inl ⟨by rfl, (by intro W9 hSw; clear hSw; go_simp; first | done | with_reducible rfl)⟩) (by assumption) ?_
  simp only [Act.put, List.setIfInBounds_toArray]; try simp only [List.set_cons_zero, List.set_cons_succ]
  refine wpAnyH_takesJ (i := 1) (v := (.bool true)) (some 41) rfl rfl (by kernel_rfl) (by kernel_rfl) (by kernel_rfl) (fun _ _ _ h => h) (Or.inl ⟨by rfl, (by intro W9 hSw; clear hSw; go_simp; first | done | with_reducible rfl)⟩) (by assumption) ?_
  simp only [Act.put, List.setIfInBounds_toArray]; try simp only [List.set_cons_zero, List.set_cons_succ]
  refine wpAnyH_takesJ (i := 2) (v := (.agg #[.slice T5 nt5 ct5, .int .i64 ba.1.size, .slice R5 nr5 cr5, .slice S5 ns5 cs5, .int .u64 (ba.1.on : Nat)])) (some 42) rfl rfl (by kernel_rfl) (by kernel_rfl) (by kernel_rfl) (fun _ _ _ h => h) (Or.inl ⟨by rfl, (by intro W9 hSw; have s0 := (hSw.2.2.1).c0; have s1 := (hSw.2.2.1).c1; have s2 := (hSw.2.2.1).c2; have s3 := (hSw.2.2.1).c3; have s4 := (hSw.2.2.1).c4; clear hSw; go_simp; first | done | with_reducible rfl)⟩) (by assumption) ?_
  simp only [Act.put, List.setIfInBounds_toArray]; try simp only [List.set_cons_zero, List.set_cons_succ]
  refine wpAnyH_takesJ (i := 4) (v := (.agg #[.slice T6 nt6 ct6, .int .i64 ba.1.size, .slice R6 nr6 cr6, .slice S6 ns6 cs6, .int .u64 (ba.1.on : Nat)])) (some 44) rfl rfl (by kernel_rfl) (by kernel_rfl) (by kernel_rfl) (fun _ _ _ h => h) (Or.inl ⟨by rfl, (by intro W9 hSw; have s0 := (hSw.2.2.2).c0; have s1 := (hSw.2.2.2).c1; have s2 := (hSw.2.2.2).c2; have s3 := (hSw.2.2.2).c3; have s4 := (hSw.2.2.2).c4; clear hSw; go_simp; first | done | with_reducible rfl)⟩) (by assumption) ?_
  simp only [Act.put, List.setIfInBounds_toArray]; try simp only [List.set_cons_zero, List.set_cons_succ]
  refine wpAnyH_ready (rs := [3]) (by kernel_rfl) (by simp) ?_
  refine AllReadyH.cons rfl (fun K hK => ?_) AllReadyH.nil
  go_simp
  go_at_call 17
  refine (RA.out _ (by exact (Below.refl _ _).drew)).mono ?_
  rintro e x1 ⟨⟨Ar1, ntr1, ctr1, Rr1, nrr1, crr1, Sr1, nsr1, csr1⟩, rfl, hmr1, hbx⟩
  have hb1 := (Below.refl V8.heap.size V8).drew.trans (hbx.mono (by simp))
  have hsm := jsame_any ⟨Ar1, ntr1, ctr1, Rr1, nrr1, crr1, Sr1, nsr1, csr1⟩ ⟨T6, nt6, ct6, R6, nr6, cr6, S6, ns6, cs6⟩ ba.1 ba.1 x1 hmr1 (Mb8.out.below hb1) HLA.out rfl rfl rfl
  unfold jv at hsm
  simp only at hsm
  have SM1 := Lib.hid hsm
  clear hsm hmr1
  unfold jv
  simp only
  refine hK.out _ _ (by exact ⟨YP8.out.step hb1, YX8.out.step hb1, Ya8.out.step hb1, Yb8.out.step hb1⟩) (fun hHeld => ?_)
  clear hK K hbx
  try dsimp only
  refine wpAnyH_ready (rs := [5]) (by kernel_rfl) (by simp) ?_
  refine AllReadyH.cons rfl (fun K hK => ?_) AllReadyH.nil
  go_simp
  go_at_call 16
  refine (SM1.out).mono ?_
  rintro e x2 ⟨rfl, hbx⟩
  have hb2 := hb1.trans (hbx.mono hb1.size)
  refine hK.out _ _ (by exact ⟨YP8.out.step hb2, YX8.out.step hb2, Ya8.out.step hb2, Yb8.out.step hb2⟩) (fun hHeld => ?_)
  clear hK K hbx
  try dsimp only
  refine wpAnyH_takesJ (i := 6) (v := (.bool true)) (some 46) rfl rfl (by kernel_rfl) (by kernel_rfl) (by kernel_rfl) (fun _ _ _ h => h) (Or.inl ⟨by rfl, (by intro W9 hSw; clear hSw; go_simp; first | done | with_reducible rfl)⟩) (by assumption) ?_
  simp only [Act.put, List.setIfInBounds_toArray]; try simp only [List.set_cons_zero, List.set_cons_succ]
  refine wpAnyH_takesJ (i := 7) (v := (.bool true)) (some 47) rfl rfl (by kernel_rfl) (by kernel_rfl) (by kernel_rfl) (fun _ _ _ h => h) (Or.inl ⟨by rfl, (by intro W9 hSw; clear hSw; go_simp; first | done | with_reducible rfl)⟩) (by assumption) ?_
  simp only [Act.put, List.setIfInBounds_toArray]; try simp only [List.set_cons_zero, List.set_cons_succ]
  refine wpAnyH_takesJ (i := 8) (v := (.int .i64 ba.2)) (some 48) rfl rfl (by kernel_rfl) (by kernel_rfl) (by kernel_rfl) (fun _ _ _ h => h) (Or.inl ⟨by rfl, (by intro W9 hSw; clear hSw; go_simp; first | done | with_reducible rfl)⟩) (by assumption) ?_
  simp only [Act.put, List.setIfInBounds_toArray]; try simp only [List.set_cons_zero, List.set_cons_succ]
  refine wpAnyH_takesJ (i := 9) (v := (.int .i64 ba.2)) (some 49) rfl rfl (by kernel_rfl) (by kernel_rfl) (by kernel_rfl) (fun _ _ _ h => h) (Or.inl ⟨by rfl, (by intro W9 hSw; clear hSw; go_simp; first | done | with_reducible rfl)⟩) (by assumption) ?_
  simp only [Act.put, List.setIfInBounds_toArray]; try simp only [List.set_cons_zero, List.set_cons_succ]
  refine wpAnyH_takesJ (i := 10) (v := (.bool true)) (some 50) rfl rfl (by kernel_rfl) (by kernel_rfl) (by kernel_rfl) (fun _ _ _ h => h) (Or.inl ⟨by rfl, (by intro W9 hSw; clear hSw; go_simp; first | done | with_reducible rfl)⟩) (by assumption) ?_
  simp only [Act.put, List.setIfInBounds_toArray]; try simp only [List.set_cons_zero, List.set_cons_succ]
  refine wpAnyH_takesJ (i := 11) (v := (.bool true)) (some 51) rfl rfl (by kernel_rfl) (by kernel_rfl) (by kernel_rfl) (fun _ _ _ h => h) (Or.inl ⟨by rfl, (by intro W9 hSw; clear hSw; go_simp; first | done | with_reducible rfl)⟩) (by assumption) ?_
  simp only [Act.put, List.setIfInBounds_toArray]; try simp only [List.set_cons_zero, List.set_cons_succ]
  refine wpAnyH_takesJ (i := 12) (v := (.bool true)) (some 52) rfl rfl (by kernel_rfl) (by kernel_rfl) (by kernel_rfl) (fun _ _ _ h => h) (Or.inl ⟨by rfl, (by intro W9 hSw; clear hSw; go_simp; first | done | with_reducible rfl)⟩) (by assumption) ?_
  simp only [Act.put, List.setIfInBounds_toArray]; try simp only [List.set_cons_zero, List.set_cons_succ]
  refine wpAnyH_takesJ (i := 13) (v := (.int .i64 en.1)) (some 53) rfl rfl (by kernel_rfl) (by kernel_rfl) (by kernel_rfl) (fun _ _ _ h => h) (Or.inl ⟨by rfl, (by intro W9 hSw; clear hSw; go_simp; first | done | with_reducible rfl)⟩) (by assumption) ?_
  simp only [Act.put, List.setIfInBounds_toArray]; try simp only [List.set_cons_zero, List.set_cons_succ]
  refine wpAnyH_takesJ (i := 14) (v := (.int .i64 en.1)) (some 54) rfl rfl (by kernel_rfl) (by kernel_rfl) (by kernel_rfl) (fun _ _ _ h => h) (Or.inl ⟨by rfl, (by intro W9 hSw; clear hSw; go_simp; first | done | with_reducible rfl)⟩) (by assumption) ?_
  simp only [Act.put, List.setIfInBounds_toArray]; try simp only [List.set_cons_zero, List.set_cons_succ]
  refine wpAnyH_takesJ (i := 15) (v := (.bool true)) (some 55) rfl rfl (by kernel_rfl) (by kernel_rfl) (by kernel_rfl) (fun _ _ _ h => h) (Or.inl ⟨by rfl, (by intro W9 hSw; clear hSw; go_simp; first | done | with_reducible rfl)⟩) (by assumption) ?_
  simp only [Act.put, List.setIfInBounds_toArray]; try simp only [List.set_cons_zero, List.set_cons_succ]
  refine wpAnyH_takesJ (i := 16) (v := (.bool true)) (some 56) rfl rfl (by kernel_rfl) (by kernel_rfl) (by kernel_rfl) (fun _ _ _ h => h) (Or.inl ⟨by rfl, (by intro W9 hSw; clear hSw; go_simp; first | done | with_reducible rfl)⟩) (by assumption) ?_
  simp only [Act.put, List.setIfInBounds_toArray]; try simp only [List.set_cons_zero, List.set_cons_succ]
  refine wpAnyH_takesJ (i := 17) (v := (.bool true)) (some 57) rfl rfl (by kernel_rfl) (by kernel_rfl) (by kernel_rfl) (fun _ _ _ h => h) (Or.inl ⟨by rfl, (by intro W9 hSw; clear hSw; go_simp; first | done | with_reducible rfl)⟩) (by assumption) ?_
  simp only [Act.put, List.setIfInBounds_toArray]; try simp only [List.set_cons_zero, List.set_cons_succ]
  refine wpAnyH_takesJ (i := 18) (v := (.int .i64 en.2)) (some 58) rfl rfl (by kernel_rfl) (by kernel_rfl) (by kernel_rfl) (fun _ _ _ h => h) (Or.inl ⟨by rfl, (by intro W9 hSw; clear hSw; go_simp; first | done | with_reducible rfl)⟩) (by assumption) ?_
  simp only [Act.put, List.setIfInBounds_toArray]; try simp only [List.set_cons_zero, List.set_cons_succ]
  refine wpAnyH_takesJ (i := 19) (v := (.int .i64 en.2)) (some 59) rfl rfl (by kernel_rfl) (by kernel_rfl) (by kernel_rfl) (fun _ _ _ h => h) (Or.inl ⟨by rfl, (by intro W9 hSw; clear hSw; go_simp; first | done | with_reducible rfl)⟩) (by assumption) ?_
  simp only [Act.put, List.setIfInBounds_toArray]; try simp only [List.set_cons_zero, List.set_cons_succ]
  refine wpAnyH_takesJ (i := 20) (v := (.bool true)) (some 60) rfl rfl (by kernel_rfl) (by kernel_rfl) (by kernel_rfl) (fun _ _ _ h => h) (Or.inl ⟨by rfl, (by intro W9 hSw; clear hSw; go_simp; first | done | with_reducible rfl)⟩) (by assumption) ?_
  simp only [Act.put, List.setIfInBounds_toArray]; try simp only [List.set_cons_zero, List.set_cons_succ]
  refine wpAnyH_takesJ (i := 21) (v := (.bool true)) (some 61) rfl rfl (by kernel_rfl) (by kernel_rfl) (by kernel_rfl) (fun _ _ _ h => h) (Or.inl ⟨by rfl, (by intro W9 hSw; clear hSw; go_simp; first | done | with_reducible rfl)⟩) (by assumption) ?_
  simp only [Act.put, List.setIfInBounds_toArray]; try simp only [List.set_cons_zero, List.set_cons_succ]
  refine wpAnyH_takesJ (i := 22) (v := (.bool true)) (some 62) rfl rfl (by kernel_rfl) (by kernel_rfl) (by kernel_rfl) (fun _ _ _ h => h) (Or.inl ⟨by rfl, (by intro W9 hSw; clear hSw; go_simp; first | done | with_reducible rfl)⟩) (by assumption) ?_
  simp only [Act.put, List.setIfInBounds_toArray]; try simp only [List.set_cons_zero, List.set_cons_succ]
  refine wpAnyH_takesJ (i := 23) (v := (.agg #[.slice A1 nt1 ct1, .int .i64 r.size, .slice R1 nr1 cr1, .slice S1 ns1 cs1, .int .u64 (r.on : Nat)])) (some 63) rfl rfl (by kernel_rfl) (by kernel_rfl) (by kernel_rfl) (fun _ _ _ h => h) (Or.inl ⟨by rfl, (by intro W9 hSw; have s0 := (hSw.2.1).c0; have s1 := (hSw.2.1).c1; have s2 := (hSw.2.1).c2; have s3 := (hSw.2.1).c3; have s4 := (hSw.2.1).c4; clear hSw; go_simp; first | done | with_reducible rfl)⟩) (by assumption) ?_
  simp only [Act.put, List.setIfInBounds_toArray]; try simp only [List.set_cons_zero, List.set_cons_succ]
  refine wpAnyH_takesJ (i := 25) (v := (.agg #[.slice A0 nt ct, .int .i64 r.size, .slice R nr cr, .slice S ns cs, .int .u64 (r.on : Nat)])) (some 65) rfl rfl (by kernel_rfl) (by kernel_rfl) (by kernel_rfl) (fun _ _ _ h => h) (Or.inl ⟨by rfl, (by intro W9 hSw; have s0 := (hSw.1).c0; have s1 := (hSw.1).c1; have s2 := (hSw.1).c2; have s3 := (hSw.1).c3; have s4 := (hSw.1).c4; clear hSw; go_simp; first | done | with_reducible rfl)⟩) (by assumption) ?_
  simp only [Act.put, List.setIfInBounds_toArray]; try simp only [List.set_cons_zero, List.set_cons_succ]
  refine wpAnyH_ready (rs := [24]) (by kernel_rfl) (by simp) ?_
  refine AllReadyH.cons rfl (fun K hK => ?_) AllReadyH.nil
  go_simp
  go_at_call 17
  refine (RX.out _ (by exact hb2)).mono ?_
  rintro e x3 ⟨⟨Ar2, ntr2, ctr2, Rr2, nrr2, crr2, Sr2, nsr2, csr2⟩, rfl, hmr2, hbx⟩
  have hb3 := hb2.trans (hbx.mono hb2.size)
  have hsm := jsame_any ⟨Ar2, ntr2, ctr2, Rr2, nrr2, crr2, Sr2, nsr2, csr2⟩ ⟨A0, nt, ct, R, nr, cr, S, ns, cs⟩ r r x3 hmr2 (MP8.out.below hb3) HLW.out rfl rfl rfl
  unfold jv at hsm
  simp only at hsm
  have SM2 := Lib.hid hsm
  clear hsm hmr2
  unfold jv
  simp only
  refine hK.out _ _ (by exact ⟨YP8.out.step hb3, YX8.out.step hb3, Ya8.out.step hb3, Yb8.out.step hb3⟩) (fun hHeld => ?_)
  clear hK K hbx
  try dsimp only
  refine wpAnyH_ready (rs := [26]) (by kernel_rfl) (by simp) ?_
  refine AllReadyH.cons rfl (fun K hK => ?_) AllReadyH.nil
  go_simp
  go_at_call 16
  refine (SM2.out).mono ?_
  rintro e x4 ⟨rfl, hbx⟩
  have hb4 := hb3.trans (hbx.mono hb3.size)
  refine hK.out _ _ (by exact ⟨YP8.out.step hb4, YX8.out.step hb4, Ya8.out.step hb4, Yb8.out.step hb4⟩) (fun hHeld => ?_)
  clear hK K hbx
  try dsimp only
  refine wpAnyH_takesJ (i := 27) (v := (.bool true)) (some 67) rfl rfl (by kernel_rfl) (by kernel_rfl) (by kernel_rfl) (fun _ _ _ h => h) (Or.inl ⟨by rfl, (by intro W9 hSw; clear hSw; go_simp; first | done | with_reducible rfl)⟩) (by assumption) ?_
  simp only [Act.put, List.setIfInBounds_toArray]; try simp only [List.set_cons_zero, List.set_cons_succ]
  refine wpAnyH_takesJ (i := 28) (v := (.bool true)) (some 2) rfl rfl (by kernel_rfl) (by kernel_rfl) (by kernel_rfl) (fun _ _ _ h => h) (Or.inl ⟨by rfl, (by intro W9 hSw; clear hSw; go_simp; first | done | with_reducible rfl)⟩) (by assumption) ?_
  simp only [Act.put, List.setIfInBounds_toArray]; try simp only [List.set_cons_zero, List.set_cons_succ]
  refine wpAnyH_done (by kernel_rfl) ?_ _
  have BE := Lib.hid (held_trans BW8.out hb4)
  clear hb1 hb2 hb3 hb4
  go_wp2_with fail
  go_ret
  exact ⟨rfl, BE.out⟩
set_option maxRecDepth 100000 in
theorem lifted (os : Os) (started : os.Started) (H : Type) (enc : TypeId × Value → H) :
    ReturnsInHanded {} Tryd.checked os 3 .any (fun w args => (Rows.balanceTellsSpec.pre enc Tryd.prog Tryd.f3 [] false w args ∧ laidMetH Tryd.prog laidList w) ∧ sizedMet enc Tryd.prog Tryd.f3 (OpenSpec.ofChange Rows.balanceTellsSpec) false w args)
      (Rows.balanceTellsSpec.post enc Tryd.prog Tryd.f3 false true false false) := by
  refine returnsInHanded_of_change_and (C := Tryd.checked) (X := fun w _ => laidMetH Tryd.prog laidList w) (fun _ _ _ hh h => h.of_heap hh) own started (by kernel_rfl) Tryd.func3
    (ChangeSpec.witness_shaped (enc := enc) (C := Tryd.checked) (os := os) (X := fun w _ => laidMetH Tryd.prog laidList w) false (World.doorLaid Tryd.prog 14 os) #[.agg #[.slice none 0 0, .int .i64 0, .slice none 0 0, .slice none 0 0, .int .u64 0]] 8 rfl (World.shaped_of_RefB (by kernel_rfl) (by kernel_rfl)) (by kernel_rfl) (by kernel_rfl) (by kernel_rfl) (door_met os _)) ?_
  intro W base args ds gs before hval0 hW _ _ hL _
  have hval : ∀ (j : Nat) t v, Tryd.f3.params[j]? = some t → args[j]? = some v → Value.okWide Tryd.prog W .any base t v := hval0
  have hW' := hW
  obtain ⟨p, q, hA0, hV, rfl, hfz, hnd⟩ := hW
  have hA : DataW.TrodAll enc Tryd.prog W 0 (fun _ => true) true Tryd.f3.params.toList args.toList ds p := hA0
  rw [Tryd.params3] at hA hval
  obtain ⟨v0, vs0, d0, ds0, p0, q0, hargs, rfl, rfl, h0, r0⟩ := trodAll_cons hA
  obtain ⟨rfl, rfl, rfl⟩ := trodAll_nil r0
  obtain rfl : args = #[v0] := by cases args; simp_all
  obtain ⟨rfl, rfl⟩ := trodVars_none hV
  have k0 := h0
  have lt0 : ∀ x ∈ p0, x.block < W.heap.size := by obtain ⟨m, hm⟩ := k0; exact DataW.trod_lt m _ _ _ hm
  obtain ⟨x0, y0, rfl, hr0⟩ := open_runs (hval 0 27 v0 rfl rfl) h0
  clear hA0 hval0
  refine (walk x0 y0 W hr0 (tab_of_laid hL)).mono fun e W' ⟨he, bel⟩ => ?_
  subst he
  exact ⟨_, rfl, _, _, _, [], _, [], hW', trodAll_mk1 (shut_bool Tryd.underlying4 _), (trodAll_cons_mk (Below.trod laidOut (by kernel_rfl) (of_decide_eq_true (by kernel_rfl)) k0 bel lt0) trodAll_mk0), rfl, bel.frame _, fun h => by cases h⟩
theorem over : Rows.BalanceTellsSaid :=
  OpenClaim.holds_of_wide 3 Tryd.f3 rfl rfl rfl rfl rfl rfl rfl ⟨rfl, rfl, rfl, rfl, rfl⟩ rfl rfl rfl rfl rfl (by kernel_rfl) Tryd.func3 (by kernel_rfl)
    (of_decide_eq_true (by kernel_rfl)) (by unfold Func.isWrapper; first | (rw [if_pos (by decide +kernel)]; kernel_rfl) | (rw [if_neg (by decide +kernel)]; exact ⟨rfl, rfl⟩))
    (fun os started H enc _ => lifted os started H enc)
theorem proved : Rows.BalanceTellsCardSaid :=
  Claim7.holds_tied_plain_at .later [] [.data] true Rows.balanceTellsCard.stood.harness false
    over (fun _ h => by cases h) (by kernel_rfl) (fun _ h => by cases h) balanceTells_row_tie rfl ⟨rfl, rfl⟩ (by kernel_rfl) rfl
    (fun f fn hf hfn => by
      obtain rfl : f = 3 := Option.some.inj ((show Tryd.prog.funcNamed "catafalque/catafalquelaw19.BalanceTells" = some 3 by kernel_rfl).symm.trans hf) |>.symm
      obtain rfl : fn = Tryd.f3 := (Option.some.inj (Tryd.func3.symm.trans hfn)).symm
      exact ⟨by kernel_rfl, fun j t ht => by
        rw [Tryd.params3] at ht
        have hm : t ∈ [27] := by simpa using Array.mem_of_getElem? ht
        have hall : ([27].all fun u => !Tryd.prog.wantsStandIn u) = true := by kernel_rfl
        exact (show Tryd.prog.wantsStandIn t = false by simpa using List.all_eq_true.1 hall t hm)⟩)
    (by kernel_rfl)
end Go.Proofs.YthbeldmgaioemaaDoor.balanceTells

